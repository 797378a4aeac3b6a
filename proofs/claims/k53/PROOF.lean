import PyProof.Rows.All
import Wide.All
import OpenK.AllK
import Wide.FinOn
import Lean
import PyProof.EqAt
import PyProof.EqKinds
import PyProof.TupleCall
import PyProof.NeKinds
import KE.KRevIter
import PyProof.EnumStmt
import PyProof.StationsW
import PyProof.ExcClass3
import PyProof.InstStoreFacts
import PyProof.StrCalls
import PyProof.StrCalls2
import PyProof.StrWalks
import PyProof.StrBlockG
import PyProof.ConsumeWalk
import PyProof.StrOps2
import KE.KIntText
import KE.IntTextText
import PyProof.JoinWalk
import PyProof.CollectIter
import PyProof.StrLawsTight
import PyProof.StrLawsChain
import PyProof.Conv_int_bool
import PyProof.MinMaxWalk
import PyProof.WalksMore
import PyProof.WalkInts
import PyProof.ZipIter
import PyProof.DictWalks
import PySem.Challenge.RW_heightfractions_k53_whole_measures_are_p
set_option Elab.async false
set_option linter.all false
set_option maxRecDepth 100000
set_option maxHeartbeats 4000000
namespace L2
open PySem PySem.Spec PyProof.Rows
abbrev Key := Sum Int Str
def keyIs : Key → Value → Bool
  | .inl k, v => Value.isInt k v
  | .inr x, v => Value.isStrOf x v
def keyH (w : World) : Key → Int
  | .inl k => hashInt k
  | .inr x => hashStr w x
theorem keyIs_shape : ∀ {k : Key} {v : Value}, keyIs k v = true → (∃ i t, k = Sum.inl i ∧ v = Value.int i t) ∨ (∃ x t, k = Sum.inr x ∧ v = Value.str x t)
  | .inl i, v, h => by
    obtain ⟨t, e⟩ := Value.isInt_shape (k := i) (v := v) h
    exact .inl ⟨i, t, rfl, e⟩
  | .inr x, v, h => by
    obtain ⟨t, e⟩ := Value.isStrOf_shape (x := x) (v := v) h
    exact .inr ⟨x, t, rfl, e⟩
theorem key_ll (a b : Int) : decide ((Sum.inl a : Key) = Sum.inl b) = (a == b) := by
  by_cases e : a = b
  · subst e; simp
  · have h : ¬ (Sum.inl a : Key) = Sum.inl b := fun q => e (Sum.inl.inj q)
    rw [decide_eq_false h]
    exact (beq_eq_false_iff_ne.mpr e).symm
theorem key_rr (a b : Str) : decide ((Sum.inr a : Key) = Sum.inr b) = decide (a = b) := by
  by_cases e : a = b
  · subst e; simp
  · have h : ¬ (Sum.inr a : Key) = Sum.inr b := fun q => e (Sum.inr.inj q)
    rw [decide_eq_false h, decide_eq_false e]
theorem key_lr (a : Int) (b : Str) : decide ((Sum.inl a : Key) = Sum.inr b) = false := decide_eq_false (fun q => nomatch q)
theorem key_rl (a : Str) (b : Int) : decide ((Sum.inr a : Key) = Sum.inl b) = false := decide_eq_false (fun q => nomatch q)
def mixKind (prog : Program) (w : World) : PySem.KeyKind prog w Key where
  is := keyIs
  hash := keyH w
  inj := fun v a b ha hb => by
    rcases keyIs_shape ha with ⟨i, t, rfl, rfl⟩ | ⟨x, t, rfl, rfl⟩
    · rcases keyIs_shape hb with ⟨j, u, rfl, e⟩ | ⟨y, u, rfl, e⟩
      · injection e with e1 _; rw [e1]
      · exact nomatch e
    · rcases keyIs_shape hb with ⟨j, u, rfl, e⟩ | ⟨y, u, rfl, e⟩
      · exact nomatch e
      · injection e with e1 _; rw [e1]
  byValue := fun k v h => by
    rcases keyIs_shape h with ⟨i, t, rfl, rfl⟩ | ⟨x, t, rfl, rfl⟩ <;> rfl
  pyHash := fun hv h => by
    rcases keyIs_shape hv with ⟨i, t, rfl, rfl⟩ | ⟨x, t, rfl, rfl⟩
    · exact wpAny_pyHash_int h
    · exact wpAny_pyHash_str h
  eqBool := fun hu hv h => by
    rcases keyIs_shape hu with ⟨i, t, rfl, rfl⟩ | ⟨x, t, rfl, rfl⟩
    · rcases keyIs_shape hv with ⟨j, u, rfl, rfl⟩ | ⟨y, u, rfl, rfl⟩
      · rw [key_ll] at h; exact wpAny_eqBool_int h
      · rw [key_lr] at h; exact SeqAt.EqAt.int_str i t y u _ _ _ _ h
    · rcases keyIs_shape hv with ⟨j, u, rfl, rfl⟩ | ⟨y, u, rfl, rfl⟩
      · rw [key_rl] at h; exact SeqAt.EqAt.str_int x t j u _ _ _ _ h
      · rw [key_rr] at h; exact wpAny_eqBool_str h
  «strs» := fun k x t v h => by
    rcases keyIs_shape h with ⟨i, u, rfl, e⟩ | ⟨y, u, rfl, e⟩
    · exact nomatch e
    · injection e with e1 _
      subst e1
      cases v <;> rfl
end L2
namespace L2
open PySem PySem.Spec PyProof.Rows
inductive V where
  | non | bl (b : Bool) | int (i : Int) | str (x : Str) | byt (b : Array UInt8) | flt (b : UInt64) | ref (a : Addr) | ty (n : String)
  deriving DecidableEq
def RelV : V → Value → Prop
  | .non, u => u = Value.none
  | .bl b, u => u = Value.bool b
  | .int i, u => ∃ t, u = Value.int i t
  | .str x, u => ∃ t, u = Value.str x t
  | .byt b, u => ∃ t, u = Value.bytes b t
  | .flt b, u => ∃ t, u = Value.float b t
  | .ref a, u => u = Value.ref a
  | .ty n, u => u = Value.type n
abbrev Vals : List V → List Value → Prop := Paired RelV
theorem Vals.length {xs : List V} {us : List Value} (r : Vals xs us) : xs.length = us.length := Paired.length r
theorem Vals.get : ∀ {xs : List V} {us : List Value} {i : Nat} {x : V}, Vals xs us → xs[i]? = some x → ∃ u, us[i]? = some u ∧ RelV x u
  | _, _, _, _, .nil, e => by simp at e
  | _, _, 0, _, .cons r _, e => by simp at e; subst e; exact ⟨_, rfl, r⟩
  | _, _, i + 1, x, .cons _ t, e => by
    obtain ⟨u, h1, h2⟩ := Vals.get (i := i) (x := x) t (by simpa using e)
    exact ⟨u, by simpa using h1, h2⟩
theorem Vals.set {x : V} {u : Value} (r : RelV x u) : ∀ {xs : List V} {us : List Value} (i : Nat), Vals xs us → Vals (xs.set i x) (us.set i u)
  | _, _, _, .nil => .nil
  | _, _, 0, .cons _ t => .cons r t
  | _, _, i + 1, .cons q t => .cons q (Vals.set r i t)
theorem Vals.append : ∀ {xs ys : List V} {us ws : List Value}, Vals xs us → Vals ys ws → Vals (xs ++ ys) (us ++ ws)
  | _, _, _, _, .nil, s => s
  | _, _, _, _, .cons r t, s => .cons r (Vals.append t s)
theorem Vals.take : ∀ {xs : List V} {us : List Value} (n : Nat), Vals xs us → Vals (xs.take n) (us.take n)
  | _, _, 0, _ => .nil
  | _, _, _ + 1, .nil => .nil
  | _, _, n + 1, .cons r t => .cons r (Vals.take n t)
theorem Vals.drop : ∀ {xs : List V} {us : List Value} (n : Nat), Vals xs us → Vals (xs.drop n) (us.drop n)
  | _, _, 0, r => r
  | _, _, _ + 1, .nil => .nil
  | _, _, n + 1, .cons _ t => Vals.drop n t
def RelO : Option V → Option Value → Prop
  | some v, some u => RelV v u
  | none, none => True
  | _, _ => False
def KV {κ : Type} : List (κ × V) → List (κ × Value) → Prop := Paired fun (p : κ × V) (q : κ × Value) => p.1 = q.1 ∧ RelV p.2 q.2
def kV : Key → V
  | .inl i => .int i
  | .inr x => .str x
inductive HO where
  | lst (xs : List V)
  | tup (xs : List V)
  | dK (kvs : List (Key × V)) | dT (kvs : List (List Key × V))
  | set (S : Int → Bool) (n : Nat)
  | ins (C dx : Addr) (fs : List (Str × V))
  | own (x : Addr)
  | xd (fs : List (Str × V))
  | met (f x : Addr)
  | rng (lo hi : Int)
  | frz (o : Obj) (u : HO)
  | tbl (ps : Array Value)
  | ext (φ : Heap → Prop)
abbrev Hp := Addr → Option HO
def upd (H : Hp) (a : Addr) (o : HO) : Hp := fun b => if b = a then some o else H b
theorem upd_same {H : Hp} {a : Addr} {o : HO} : upd H a o a = some o := by unfold upd; rw [if_pos rfl]
theorem upd_ne {H : Hp} {a b : Addr} {o : HO} (h : b ≠ a) : upd H a o b = H b := by unfold upd; rw [if_neg h]
theorem ne_of_none {H : Hp} {a b : Addr} {o : HO} (h : H a = some o) (h' : H b = none) : a ≠ b := by
  intro e; subst e; rw [h] at h'; cases h'
section
variable (P : Program) (w : World)
def ObjOk (H : Hp) (h : Heap) (a : Addr) : HO → Prop
  | .lst xs => xs.length ≤ sizeLine ∧ ∃ (its : List Value) (n : Nat), Vals xs its ∧ h.get? a = some { cls := .type "list", data := .seq its.toArray n }
  | .tup xs => xs.length ≤ sizeLine ∧ ∃ its : List Value, Vals xs its ∧ IsTup h a its.toArray
  | .dK kvs => kvs.length ≤ sizeLine ∧ (a == sysModules) = false ∧ ∃ vs, KV kvs vs ∧ h.DictOf (mixKind P w) a vs
  | .dT kvs => kvs.length ≤ sizeLine ∧ (a == sysModules) = false ∧ ∃ xs : List (List Key × Addr × Value),
      Paired (fun (p : List Key × V) (q : List Key × Addr × Value) => p.1 = q.1 ∧ H q.2.1 = some (.tup (p.1.map kV)) ∧ RelV p.2 q.2.2) kvs xs ∧
      ∃ o es ep, h.get? a = some o ∧ o.ExactDict ∧ o.data = .dict es ep ∧ es.toList = xs.map (entryOfKey (tupleKind (mixKind P w))) ∧ (xs.map (·.1)).Nodup
  | .set S n => h.SetOf (intKind P w) a S n
  | .ins C dx fs => H dx = some (.own a) ∧ fs.length ≤ 1000 ∧ dx ≠ a ∧ h.get? a = some (PySem.W.instObj C dx) ∧
      ∃ mA, h.Ns1 dx mA ∧ (∀ f, RelO (fs.lookup f) (mA f)) ∧ PySem.Within mA (fs.map (·.1))
  | .own _ => ∃ o, h.get? a = some o
  | .xd fs => ∃ mA, h.Ns1 a mA ∧ ∀ f, RelO (fs.lookup f) (mA f)
  | .rng lo hi => ∃ t u v, h.get? a = some { cls := .type "range", data := .fields #[.int lo t, .int hi u, .int 1 v] }
  | .frz o u => h.get? a = some o ∧ ObjOk H h a u
  | .tbl ps => h.get? a = some { cls := .none, data := .fields ps }
  | .met f x => h.get? a = some (PySem.W.methodObj (.ref f) (.ref x))
  | .ext φ => φ h ∧ (∃ o, h.get? a = some o) ∧ ∀ h1 h2 : Heap, φ h1 → (∀ o, h1.get? a = some o → h2.get? a = some o) → φ h2
def HOk (H : Hp) (h : Heap) : Prop := ∀ a o, H a = some o → ObjOk P w H h a o
end
section
variable {P : Program} {w : World} {H H' : Hp} {h h' : Heap} {a : Addr} {o : HO}
theorem ObjOk.lt (x : ObjOk P w H h a o) : a < h.objs.size := by
  cases o with
  | lst xs => obtain ⟨_, _, _, _, e⟩ := x; exact Heap.lt_size e
  | tup xs => obtain ⟨_, _, _, p⟩ := x; exact p.lt
  | dK kvs => obtain ⟨_, _, _, _, o, _, _, e, _⟩ := x; exact Heap.lt_size e
  | dT kvs => obtain ⟨_, _, _, _, o, _, _, e, _⟩ := x; exact Heap.lt_size e
  | set S n => obtain ⟨o, _, _, _, e, _⟩ := x; exact Heap.lt_size e
  | ins C dx fs => obtain ⟨_, _, _, e, _⟩ := x; exact Heap.lt_size e
  | own y => obtain ⟨_, e⟩ := x; exact Heap.lt_size e
  | xd fs => obtain ⟨_, ⟨_, _, _, e, _⟩, _⟩ := x; exact Heap.lt_size e
  | rng lo hi => obtain ⟨_, _, _, e⟩ := x; exact Heap.lt_size e
  | frz ob u => obtain ⟨e, _⟩ := x; exact Heap.lt_size e
  | tbl ps => exact Heap.lt_size (show h.get? a = some _ from x)
  | met f y => exact Heap.lt_size (show h.get? a = some _ from x)
  | ext φ => obtain ⟨_, ⟨_, e⟩, _⟩ := x; exact Heap.lt_size e
theorem Paired.mapP {α β : Type} {F G : α → β → Prop} : ∀ {l₁ : List α} {l₂ : List β}, Paired F l₁ l₂ → (∀ a b, F a b → G a b) → Paired G l₁ l₂
  | _, _, .nil, _ => .nil
  | _, _, .cons r t, f => .cons (f _ _ r) (Paired.mapP t f)
theorem ObjOk.stay (x : ObjOk P w H h a o) (k : ∀ b u, (b = a ∨ H b = some (.own a)) → h.get? b = some u → h'.get? b = some u)
    (ho : ∀ b, H b = some (.own a) → H' b = some (.own a)) (ht : ∀ b xs, H b = some (.tup xs) → H' b = some (.tup xs)) : ObjOk P w H' h' a o := by
  induction o with
  | lst xs => obtain ⟨z, its, n, r, e⟩ := x; exact ⟨z, its, n, r, k _ _ (.inl rfl) e⟩
  | tup xs => obtain ⟨z, its, r, ob, e, c⟩ := x; exact ⟨z, its, r, ob, k _ _ (.inl rfl) e, c⟩
  | dK kvs => obtain ⟨z, y, vs, r, ob, es, ep, e, c⟩ := x; exact ⟨z, y, vs, r, ob, es, ep, k _ _ (.inl rfl) e, c⟩
  | dT kvs =>
    obtain ⟨z, y, xs, r, ob, es, ep, e, c⟩ := x
    exact ⟨z, y, xs, Paired.mapP r fun p q z => ⟨z.1, ht _ _ z.2.1, z.2.2⟩, ob, es, ep, k _ _ (.inl rfl) e, c⟩
  | set S n => obtain ⟨ob, es, ep, t, e, c⟩ := x; exact ⟨ob, es, ep, t, k _ _ (.inl rfl) e, c⟩
  | ins C dx fs =>
    obtain ⟨d, z, ne, e, mA, ⟨od, es, ep, e2, c⟩, r⟩ := x
    exact ⟨ho _ d, z, ne, k _ _ (.inl rfl) e, mA, ⟨od, es, ep, k _ _ (.inr d) e2, c⟩, r⟩
  | own y => obtain ⟨ob, e⟩ := x; exact ⟨ob, k _ _ (.inl rfl) e⟩
  | xd fs => obtain ⟨mA, ⟨od, es, ep, e, c⟩, r⟩ := x; exact ⟨mA, ⟨od, es, ep, k _ _ (.inl rfl) e, c⟩, r⟩
  | rng lo hi => obtain ⟨t, u, v, e⟩ := x; exact ⟨t, u, v, k _ _ (.inl rfl) e⟩
  | frz ob u ih => obtain ⟨e, q⟩ := x; exact ⟨k _ _ (.inl rfl) e, ih q⟩
  | tbl ps =>
    have e : h.get? a = some { cls := .none, data := .fields ps } := x
    show h'.get? a = some { cls := .none, data := .fields ps }
    exact k a _ (.inl rfl) e
  | met f y =>
    have e : h.get? a = some (PySem.W.methodObj (.ref f) (.ref y)) := x
    show h'.get? a = some (PySem.W.methodObj (.ref f) (.ref y))
    exact k a _ (.inl rfl) e
  | ext φ => obtain ⟨p, ⟨o, e⟩, st⟩ := x; exact ⟨st _ _ p fun o q => k _ _ (.inl rfl) q, ⟨o, k _ _ (.inl rfl) e⟩, st⟩
theorem HOk.lt (x : HOk P w H h) (e : H a = some o) : a < h.objs.size := (x a o e).lt
theorem HOk.fresh (x : HOk P w H h) (e : h.objs.size ≤ a) : H a = none := by
  cases q : H a with
  | none => rfl
  | some u => exact absurd (Nat.lt_of_lt_of_le (x.lt q) e) (Nat.lt_irrefl _)
theorem HOk.kept (x : HOk P w H h) (k : ∀ b u, h.get? b = some u → h'.get? b = some u) : HOk P w H h' := fun a o e =>
  (x a o e).stay (fun b u _ q => k b u q) (fun _ q => q) fun _ _ q => q
theorem HOk.laid (x : HOk P w H h) (k : ∀ b u, h.get? b = some u → h'.get? b = some u) (hp : h.objs.size ≤ a) (new : ObjOk P w (upd H a o) h' a o) : HOk P w (upd H a o) h' := fun b u e => by
  have hn := x.fresh hp
  by_cases hb : b = a
  · subst hb; rw [upd_same] at e; cases e; exact new
  · rw [upd_ne hb] at e
    exact (x b u e).stay (fun c v _ q => k c v q) (fun c q => by rw [upd_ne (ne_of_none q hn)]; exact q) fun c xs q => by rw [upd_ne (ne_of_none q hn)]; exact q
end
def Rd (H : Hp) (a : Addr) (u : HO) : Prop := H a = some u ∨ ∃ o, H a = some (.frz o u)
theorem Rd.of {H : Hp} {a : Addr} {u : HO} (h : H a = some u) : Rd H a u := .inl h
theorem Rd.ok {P : Program} {w : World} {H : Hp} {h : Heap} {a : Addr} {u : HO} (r : Rd H a u) (x : HOk P w H h) : ObjOk P w H h a u := by
  rcases r with r | ⟨o, r⟩
  · exact x a u r
  · obtain ⟨_, q⟩ := x a _ r
    exact q
def Mut : Option HO → Prop
  | some (.lst _) => True
  | some (.dK _) => True
  | some (.dT _) => True
  | some (.set _ _) => True
  | some (.ins _ _ _) => True
  | some (.ext _) => True
  | _ => False
section
variable {P : Program} {w : World} {H : Hp} {h h' : Heap} {x e : Addr} {o' : HO}
theorem HOk.write (ok : HOk P w H h) (mu : Mut (H x)) (he : e = x ∨ H e = some (.own x)) (k : ∀ b u, b ≠ e → h.get? b = some u → h'.get? b = some u) (heo : ∃ u, h'.get? e = some u)
    (new : ObjOk P w (upd H x o') h' x o') : HOk P w (upd H x o') h' := fun b u q => by
  have nown : ∀ c y, H c = some (.own y) → c ≠ x := fun c y r z => by subst z; rw [r] at mu; exact mu
  have ntup : ∀ c xs, H c = some (.tup xs) → c ≠ x := fun c xs r z => by subst z; rw [r] at mu; exact mu
  by_cases hb : b = x
  · subst hb; rw [upd_same] at q; cases q; exact new
  · rw [upd_ne hb] at q
    by_cases hbe : b = e
    · have q' : H b = some (.own x) := by
        rcases he with z | z
        · exact absurd (hbe.trans z) hb
        · rw [hbe]; exact z
      rw [q] at q'; cases q'
      obtain ⟨v, hv⟩ := heo
      exact ⟨v, by rw [hbe]; exact hv⟩
    · refine (ok b u q).stay (fun c v hc r => k c v ?_ r) (fun c r => by rw [upd_ne (nown c b r)]; exact r) fun c xs r => by rw [upd_ne (ntup c xs r)]; exact r
      rcases hc with rfl | hc
      · exact hbe
      · rintro rfl
        rcases he with z | z
        · exact nown c b hc z
        · rw [hc] at z; cases z; exact hb rfl
end
structure Un (fs ex : List Addr) (H H' : Hp) (h h' : Heap) : Prop where
  keep : ∀ b o, h.get? b = some o → H b = none → b ∉ fs → b ∉ ex → h'.get? b = some o
  slot : ∀ b o, h.get? b = some o → H b = none → b ∈ fs → b ∉ ex → ∃ sl, h'.get? b = some { o with slots := sl }
  free : ∀ b o, h.get? b = some o → H b = none → b ∉ ex → H' b = none
  there : ∀ b o, h.get? b = some o → b ∉ ex → ∃ o', h'.get? b = some o'
  tups : ∀ b xs, H b = some (.tup xs) → H' b = some (.tup xs)
  frzs : ∀ b o u, H b = some (.frz o u) → H' b = some (.frz o u)
  tbls : ∀ b ps, H b = some (.tbl ps) → ∃ more, H' b = some (.tbl (ps ++ more))
section
variable {fs fs' ex ex' : List Addr} {H H1 H2 : Hp} {h h1 h2 h' : Heap} {a x e : Addr} {o : HO}
theorem Un.any (u : Un fs ex H H1 h h1) {b : Addr} {ob : Obj} (q : h.get? b = some ob) (n : H b = none) (hx : b ∉ ex) : ∃ sl, h1.get? b = some { ob with slots := sl } := by
  by_cases hb : b ∈ fs
  · exact u.slot b ob q n hb hx
  · exact ⟨ob.slots, u.keep b ob q n hb hx⟩
theorem Un.trans (a : Un fs ex H H1 h h1) (b : Un fs ex H1 H2 h1 h2) : Un fs ex H H2 h h2 where
  keep := fun c ob q n hc hx => b.keep c ob (a.keep c ob q n hc hx) (a.free c ob q n hx) hc hx
  slot := fun c ob q n hc hx => by
    obtain ⟨sl, e1⟩ := a.slot c ob q n hc hx
    obtain ⟨sl', e2⟩ := b.slot c _ e1 (a.free c ob q n hx) hc hx
    exact ⟨sl', e2⟩
  free := fun c ob q n hx => by
    obtain ⟨o', e1⟩ := a.there c ob q hx
    exact b.free c o' e1 (a.free c ob q n hx) hx
  there := fun c ob q hx => by
    obtain ⟨o', e1⟩ := a.there c ob q hx
    exact b.there c o' e1 hx
  tups := fun c xs q => b.tups c xs (a.tups c xs q)
  frzs := fun c ob xs q => b.frzs c ob xs (a.frzs c ob xs q)
  tbls := fun c ps q => by
    obtain ⟨m1, e1⟩ := a.tbls c ps q
    obtain ⟨m2, e2⟩ := b.tbls c _ e1
    exact ⟨m1 ++ m2, by rw [e2, Array.append_assoc]⟩
theorem Un.kept (k : ∀ b u, h.get? b = some u → h'.get? b = some u) : Un fs ex H H h h' :=
  ⟨fun b ob q _ _ _ => k b ob q, fun b ob q _ _ _ => ⟨ob.slots, k b ob q⟩, fun _ _ _ n _ => n, fun b ob q _ => ⟨ob, k b ob q⟩, fun _ _ q => q, fun _ _ _ q => q, fun _ ps q => ⟨#[], by rw [q]; simp⟩⟩
theorem Un.refl : Un fs ex H H h h := Un.kept fun _ _ q => q
theorem Un.laid (k : ∀ b u, h.get? b = some u → h'.get? b = some u) (hp : h.objs.size ≤ a) (hn : H a = none) : Un fs ex H (upd H a o) h h' where
  keep := fun b u q _ _ _ => k b u q
  slot := fun b u q _ _ _ => ⟨u.slots, k b u q⟩
  free := fun b u q n _ => by rw [upd_ne (Nat.ne_of_lt (Nat.lt_of_lt_of_le (Heap.lt_size q) hp))]; exact n
  there := fun b u q _ => ⟨u, k b u q⟩
  tups := fun b xs q => by rw [upd_ne (ne_of_none q hn)]; exact q
  frzs := fun b u xs q => by rw [upd_ne (ne_of_none q hn)]; exact q
  tbls := fun b ps q => ⟨#[], by rw [upd_ne (ne_of_none q hn), q]; simp⟩
theorem Un.write (mu : Mut (H x)) (he : e = x ∨ H e = some (.own x)) (k : ∀ b u, b ≠ e → h.get? b = some u → h'.get? b = some u) (heo : ∃ u, h'.get? e = some u) : Un fs ex H (upd H x o) h h' := by
  have hx : ∀ b, H b = none → b ≠ x := fun b n z => by subst z; rw [n] at mu; exact mu
  have hb : ∀ b, H b = none → b ≠ e := fun b n z => by
    subst z
    rcases he with r | r
    · exact hx b n r
    · rw [n] at r; cases r
  have hm : ∀ b u, H b = some u → ¬ Mut (some u) → b ≠ x := fun b u q nm z => by subst z; rw [q] at mu; exact nm mu
  refine ⟨fun b u q n _ _ => k b u (hb b n) q, fun b u q n _ _ => ⟨u.slots, k b u (hb b n) q⟩, fun b u q n _ => by rw [upd_ne (hx b n)]; exact n, fun b u q _ => ?_,
    fun b xs q => by rw [upd_ne (hm b _ q fun z => z)]; exact q, fun b u xs q => by rw [upd_ne (hm b _ q fun z => z)]; exact q, fun b ps q => ⟨#[], by rw [upd_ne (hm b _ q fun z => z), q]; simp⟩⟩
  by_cases hbe : b = e
  · subst hbe; exact heo
  · exact ⟨u, k b u hbe q⟩
theorem Un.mono (u : Un fs ex H H1 h h1) (hs : ∀ b ∈ fs, b ∈ fs') (hx : ∀ b ∈ ex, b ∈ ex') : Un fs' ex' H H1 h h1 :=
  ⟨fun b ob q n hb he => u.keep b ob q n (fun z => hb (hs b z)) fun z => he (hx b z), fun _ _ q n _ he => u.any q n fun z => he (hx _ z), fun b ob q n he => u.free b ob q n fun z => he (hx b z), fun b ob q he => u.there b ob q fun z => he (hx b z), u.tups, u.frzs, u.tbls⟩
end
def trk (h : Heap) (H : Hp) : List Addr := (List.range h.objs.size).filter fun a => (H a).isSome
def hidT (h : Heap) (H : Hp) : Heap := PySem.W.hideAll h (trk h H)
theorem hidT_size (h : Heap) (H : Hp) : (hidT h H).objs.size = h.objs.size := PySem.W.hideAll_size _ _
theorem hidT_get {h : Heap} {H : Hp} {b : Addr} {o : Obj} (e : h.get? b = some o) (n : H b = none) : (hidT h H).get? b = some o :=
  PySem.W.hideAll_get _ e fun hm => by
    have q : (H b).isSome = true := (List.mem_filter.mp hm).2
    rw [n] at q; simp at q
theorem of_hidT {h : Heap} {H : Hp} {b : Addr} {o : Obj} (e : (hidT h H).get? b = some o) : h.get? b = some o ∧ H b = none := by
  have e' : h.get? b = some o := PySem.W.of_hideAll (trk h H) e
  refine ⟨e', ?_⟩
  cases q : H b with
  | none => rfl
  | some x =>
    have hm : b ∈ trk h H := List.mem_filter.mpr ⟨List.mem_range.mpr (Heap.lt_size e'), by simp [q]⟩
    have z : (hidT h H).get? b = none := PySem.W.hideAll_none (trk h H) hm
    rw [z] at e; cases e
def allNews (g h : Heap) (L : Addr) : List (Addr × Obj) := (List.range h.objs.size).filterMap fun a => if a = L ∨ (g.get? a).isSome = true then none else (h.get? a).map fun o => (a, o)
def rest (g h : Heap) (L d : Addr) : List (Addr × Obj) := (allNews g h L).filter fun p => decide (p.1 ≠ d)
end L2
namespace L2
open PySem PySem.Spec PyProof.Rows
structure Mod (K : PySem.W.Frag) (mg : Str → Option Value) (base : Heap) : Prop where
  kin : K.In base
  glob : base.Ns mainGlobals mg
  blt : ∃ mb, base.Ns builtinsNs mb ∧ ∀ x : Str, x ≠ "__name__" → mb x = bootBuiltins x
  nolimit : base.NoLimit
/-- the context: a def's body (or a comprehension's block) running. base: fixed through the whole law; s₀, H₀: the entry; outer: the frames whose slots others may change (a def's callers); stack: all frames that run;
   ex: iterators that were made ahead of the entry and are walked here (a comprehension's); fn: the names whose cells were made at the entry (a def: all; a comprehension's block: its own); calm: not within an except suite; pn: pins that every state bears; xe: what is wanted of an exception that leaves the code -/
structure Cx where
  prog : Program
  w : World
  K : PySem.W.Frag
  mg : Str → Option Value
  base : Heap
  A : Around
  N : List Str
  s₀ : Shared
  H₀ : Hp
  env : Env
  outer : List Env
  stack : List Env
  ex : List Addr
  fn : Str → Bool
  calm : Bool
  pn : List (Addr × Obj)
  xe : Value → Shared → Prop
def frs (l : List Env) : List Addr := l.filterMap (·.frame)
abbrev Cx.fs (X : Cx) : List Addr := frs X.outer
def Vis (sc : Scope) (x : Str) : Prop := sc.names.lookup x = some .local ∨ sc.names.lookup x = some .cell ∨ sc.names.lookup x = some .free
def Loc (sc : Scope) (x : Str) : Prop := sc.names.lookup x = some .local ∨ sc.names.lookup x = some .cell
def Look (env : Env) (h : Heap) (m : Str → Option Value) (x : Str) (u : Value) : Prop :=
  (env.kindOf x = some .local ∧ m x = some u) ∨ ((env.kindOf x = some .cell ∨ env.kindOf x = some .free) ∧ ∃ c, env.cells.lookup x = some c ∧ h.IsCell c (some u))
structure Cx.Ok (X : Cx) : Prop where
  mod : Mod X.K X.mg X.base
  kind : X.env.scope.kind = .function
  glob : X.env.globals = mainGlobals
  blt : X.env.builtins = builtinsNs
  above : X.s₀.heap.objs.size ≤ X.env.locals
  inj : ∀ x y c, X.env.cells.lookup x = some c → X.env.cells.lookup y = some c → x = y
  has : ∀ x, (X.env.kindOf x = some .cell ∨ X.env.kindOf x = some .free) → ∃ c, X.env.cells.lookup x = some c
  cab : ∀ x c, X.fn x = true → X.env.cells.lookup x = some c → X.s₀.heap.objs.size ≤ c
  hd : X.calm = true → X.A.handled = none
  frames : X.A.frames = some X.stack
  stk : X.stack = X.outer ∨ (X.stack = X.env :: X.outer ∧ X.env.frame = some X.env.locals)
  exf : ∀ b ∈ X.ex, b ≠ X.env.locals ∧ ∀ x c, X.env.cells.lookup x = some c → c ≠ b
  bs : ∀ b o, X.base.get? b = some o → X.s₀.heap.get? b = some o ∧ X.H₀ b = none
  bsz : X.base.objs.size ≤ X.s₀.heap.objs.size
  noex : ∀ b o, X.base.get? b = some o → b ∉ X.ex
  exfs : ∀ b ∈ X.ex, b ∉ X.fs
  funs : X.s₀.heap.FunFrames X.base X.outer
  frf : ∀ b ∈ X.fs, X.H₀ b = none
structure Inv (X : Cx) (pins : List (Addr × Obj)) (σ : List (Option V)) (H : Hp) (s : Shared) : Prop where
  ok : X.Ok
  os : s.os = X.s₀.os
  bare : AllBare s.gens
  base : Un X.fs X.ex X.H₀ H X.s₀.heap s.heap
  loc : ∃ m, s.heap.Ns X.env.locals m ∧ ∀ (i : Nat) (x : Str) (v : V), X.N[i]? = some x → σ[i]? = some (some v) → Vis X.env.scope x → ∃ u, RelV v u ∧ Look X.env s.heap m x u
  cell : ∀ x c, X.env.cells.lookup x = some c → ∃ v, s.heap.IsCell c v
  free : H X.env.locals = none
  freeC : ∀ x c, X.env.cells.lookup x = some c → H c = none
  pin : ∀ p ∈ X.pn ++ pins, s.heap.get? p.1 = some p.2 ∧ H p.1 = none ∧ p.1 ≠ X.env.locals ∧ p.1 ∉ X.fs ∧ ∀ v, p.2.data ≠ .cell v
  hok : HOk X.prog X.w H s.heap
  len : σ.length = X.N.length
section
variable {X : Cx} {pins : List (Addr × Obj)} {σ : List (Option V)} {H H' : Hp} {s : Shared} {h' : Heap}
theorem Cx.Ok.nofr (ok : X.Ok) {b : Addr} {o : Obj} (e : X.base.get? b = some o) : b ∉ X.fs := fun hb => by
  have := (ok.funs.mem hb).1
  rw [e] at this; cases this
theorem Inv.bs (I : Inv X pins σ H s) : ∀ b o, X.base.get? b = some o → s.heap.get? b = some o ∧ H b = none := fun b o e =>
  ⟨I.base.keep b o (I.ok.bs b o e).1 (I.ok.bs b o e).2 (I.ok.nofr e) (I.ok.noex b o e), I.base.free b o (I.ok.bs b o e).1 (I.ok.bs b o e).2 (I.ok.noex b o e)⟩
theorem Inv.bk (I : Inv X pins σ H s) : ∀ b o, X.base.get? b = some o → s.heap.get? b = some o := fun b o e => (I.bs b o e).1
theorem Inv.mod (I : Inv X pins σ H s) : Mod X.K X.mg X.base := I.ok.mod
theorem Inv.kIn (I : Inv X pins σ H s) : X.K.In s.heap := I.ok.mod.kin.keeps I.bk
theorem Inv.nolimit (I : Inv X pins σ H s) : s.heap.NoLimit := I.ok.mod.nolimit.keeps I.bk
theorem Inv.fr (I : Inv X pins σ H s) : ∃ m, Fr X.base X.env.locals s.heap m :=
  let ⟨m, hn, _⟩ := I.loc
  ⟨m, hn, I.bk, Nat.le_trans I.ok.bsz I.ok.above⟩
theorem Inv.lt (I : Inv X pins σ H s) : X.env.locals < s.heap.objs.size := let ⟨_, hn, _⟩ := I.loc; hn.lt
theorem Inv.sz (I : Inv X pins σ H s) : X.s₀.heap.objs.size ≤ s.heap.objs.size := Nat.le_trans I.ok.above (Nat.le_of_lt I.lt)
theorem Inv.nofs (I : Inv X pins σ H s) {a : Addr} (h : s.heap.objs.size ≤ a) : a ∉ X.fs := fun hb => by
  obtain ⟨_, o, ho, _⟩ := I.ok.funs.mem hb
  exact absurd (Nat.lt_of_lt_of_le (Heap.lt_size ho) (Nat.le_trans I.sz h)) (Nat.lt_irrefl _)
theorem Inv.cne (I : Inv X pins σ H s) : ∀ x c, X.env.cells.lookup x = some c → c ≠ X.env.locals := fun x c e z => by
  obtain ⟨v, o, ho, hd⟩ := I.cell x c e
  obtain ⟨m, ⟨o', es, ep, ho', hd', _⟩, _⟩ := I.loc
  rw [z, ho'] at ho; cases ho; rw [hd'] at hd; cases hd
theorem Inv.funs (I : Inv X pins σ H s) : s.heap.FunFrames X.base X.outer := by
  have all : ∀ (l : List Env), (∀ b ∈ frs l, b ∈ X.fs) → X.s₀.heap.FunFrames X.base l → s.heap.FunFrames X.base l := by
    intro l
    induction l with
    | nil => intro _ _; trivial
    | cons env r ih =>
      intro hs hl
      obtain ⟨hk, ⟨L, o, hf, hn, ho, hd⟩, hr⟩ := hl
      have hL : L ∈ X.fs := hs L (by unfold frs; rw [List.filterMap_cons, hf]; exact List.mem_cons_self)
      obtain ⟨sl, e⟩ := I.base.slot L o ho (I.ok.frf L hL) hL fun z => I.ok.exfs L z hL
      exact ⟨hk, ⟨L, _, hf, hn, e, hd⟩, ih (fun b hb => hs b (by unfold frs; rw [List.filterMap_cons, hf]; exact List.mem_cons_of_mem _ hb)) hr⟩
  exact all X.outer (fun _ hb => hb) I.ok.funs
theorem Inv.stack (I : Inv X pins σ H s) : s.heap.FunFrames X.base X.stack := by
  rcases I.ok.stk with e | ⟨e, hf⟩
  · rw [e]; exact I.funs
  · rw [e]
    obtain ⟨m, hn, _⟩ := I.loc
    refine .cons (by rw [I.ok.kind]; decide) hf hn ?_ I.funs
    exact Heap.get?_none_of_le (Nat.le_trans I.ok.bsz I.ok.above)
theorem Inv.stkSub (I : Inv X pins σ H s) : ∀ b ∈ frs X.stack, b ∈ X.env.locals :: X.fs := fun b hb => by
  rcases I.ok.stk with e | ⟨e, hf⟩
  · rw [e] at hb; exact List.mem_cons_of_mem _ hb
  · rw [e] at hb
    unfold frs at hb
    rw [List.filterMap_cons, hf] at hb
    exact hb
theorem Inv.stkFree (I : Inv X pins σ H s) : ∀ b ∈ frs X.stack, H b = none := fun b hb => by
  rcases List.mem_cons.mp (I.stkSub b hb) with e | hb
  · rw [e]; exact I.free
  · obtain ⟨_, o, ho, _⟩ := I.ok.funs.mem hb
    exact I.base.free b o ho (I.ok.frf b hb) fun z => I.ok.exfs b z hb
theorem Inv.step {g' : Array GenState} {t' : Nat} {d' : Drawn} {ch : List Addr} (I : Inv X pins σ H s)
    (hch : ∀ b ∈ ch, (b ∈ X.ex ∨ X.s₀.heap.objs.size ≤ b) ∧ b ≠ X.env.locals ∧ (∀ x c, X.env.cells.lookup x = some c → c ≠ b) ∧ ∀ p ∈ X.pn ++ pins, p.1 ≠ b)
    (keep : ∀ b o, b ≠ X.env.locals → b ∉ X.fs → b ∉ ch → s.heap.get? b = some o → H b = none → h'.get? b = some o)
    (slot : ∀ b o, b ≠ X.env.locals → b ∈ X.fs → b ∉ ch → s.heap.get? b = some o → H b = none → ∃ sl, h'.get? b = some { o with slots := sl }) (free : ∀ b o, b ∉ ch → s.heap.get? b = some o → H b = none → H' b = none)
    (there : ∀ b o, b ∉ ch → s.heap.get? b = some o → ∃ o', h'.get? b = some o')
    (tups : ∀ b xs, H b = some (.tup xs) → H' b = some (.tup xs)) (frzs : ∀ b o u, H b = some (.frz o u) → H' b = some (.frz o u)) (tbls : ∀ b ps, H b = some (.tbl ps) → ∃ more, H' b = some (.tbl (ps ++ more)))
    (ns : ∀ m, s.heap.Ns X.env.locals m → h'.Ns X.env.locals m) (hok : HOk X.prog X.w H' h') (hg : AllBare g') :
    Inv X pins σ H' { s with heap := h', gens := g', drawn := d', toks := t' } := by
  have neL : ∀ b o, X.s₀.heap.get? b = some o → b ≠ X.env.locals := fun b o e => Nat.ne_of_lt (Nat.lt_of_lt_of_le (Heap.lt_size e) I.ok.above)
  have neC : ∀ b o, X.s₀.heap.get? b = some o → b ∉ X.ex → b ∉ ch := fun b o e hx hb => by
    rcases (hch b hb).1 with z | z
    · exact hx z
    · exact absurd (Nat.lt_of_lt_of_le (Heap.lt_size e) z) (Nat.lt_irrefl _)
  have cellK : ∀ x c, X.env.cells.lookup x = some c → ∀ v, s.heap.IsCell c v → h'.IsCell c v := fun x c e v ⟨o, ho, hd⟩ => by
    have nch : c ∉ ch := fun z => (hch c z).2.2.1 x c e rfl
    by_cases hc : c ∈ X.fs
    · obtain ⟨sl, q⟩ := slot c o (I.cne x c e) hc nch ho (I.freeC x c e)
      exact ⟨_, q, hd⟩
    · exact ⟨o, keep c o (I.cne x c e) hc nch ho (I.freeC x c e), hd⟩
  refine ⟨I.ok, I.os, hg, ⟨fun b o e n hb hx => ?_, fun b o e n hb hx => ?_, fun b o e n hx => ?_, fun b o e hx => ?_, fun b xs e => tups b xs (I.base.tups b xs e), fun b o xs e => frzs b o xs (I.base.frzs b o xs e), fun b ps e => ?_⟩, ?_, fun x c e => ?_, ?_, fun x c e => ?_, fun p hp => ?_, hok, I.len⟩
  · exact keep b o (neL b o e) hb (neC b o e hx) (I.base.keep b o e n hb hx) (I.base.free b o e n hx)
  · obtain ⟨sl, e1⟩ := I.base.slot b o e n hb hx
    obtain ⟨sl', e2⟩ := slot b _ (neL b o e) hb (neC b o e hx) e1 (I.base.free b o e n hx)
    exact ⟨sl', e2⟩
  · obtain ⟨o', e1⟩ := I.base.there b o e hx
    exact free b o' (neC b o e hx) e1 (I.base.free b o e n hx)
  · obtain ⟨o', e1⟩ := I.base.there b o e hx
    exact there b o' (neC b o e hx) e1
  · obtain ⟨m1, e1⟩ := I.base.tbls b ps e
    obtain ⟨m2, e2⟩ := tbls b _ e1
    exact ⟨m1 ++ m2, by rw [e2, Array.append_assoc]⟩
  · obtain ⟨m, hn, hl⟩ := I.loc
    refine ⟨m, ns m hn, fun i x v e1 e2 e3 => ?_⟩
    obtain ⟨u, r, l⟩ := hl i x v e1 e2 e3
    refine ⟨u, r, ?_⟩
    rcases l with l | ⟨k, c, e, z⟩
    · exact .inl l
    · exact .inr ⟨k, c, e, cellK x c e _ z⟩
  · obtain ⟨v, z⟩ := I.cell x c e
    exact ⟨v, cellK x c e v z⟩
  · obtain ⟨m, ⟨o, _, _, ho, _⟩, _⟩ := I.loc
    exact free _ o (fun z => (hch _ z).2.1 rfl) ho I.free
  · obtain ⟨v, o, ho, hd⟩ := I.cell x c e
    exact free c o (fun z => (hch c z).2.2.1 x c e rfl) ho (I.freeC x c e)
  · obtain ⟨e, n, ne, nf, d⟩ := I.pin p hp
    have nch : p.1 ∉ ch := fun z => (hch p.1 z).2.2.2 p hp rfl
    exact ⟨keep p.1 p.2 ne nf nch e n, free p.1 p.2 nch e n, ne, nf, d⟩
theorem Inv.un {t' : Nat} (I : Inv X pins σ H s) (u : Un X.fs [] H H' s.heap h') (hok : HOk X.prog X.w H' h') : Inv X pins σ H' { s with heap := h', toks := t' } := by
  obtain ⟨m, ⟨o, es, ep, ho, r⟩, _⟩ := id I.loc
  obtain ⟨sl, hL⟩ := u.any ho I.free (by simp)
  exact I.step (g' := s.gens) (d' := s.drawn) (ch := []) (fun _ z => nomatch z) (fun b o _ hb _ e n => u.keep b o e n hb (by simp)) (fun b o _ hb _ e n => u.slot b o e n hb (by simp)) (fun b o _ e n => u.free b o e n (by simp)) (fun b o _ e => u.there b o e (by simp)) u.tups u.frzs u.tbls (fun m' hm => by
    obtain ⟨o', es', ep', ho', r'⟩ := hm
    rw [ho] at ho'; cases ho'
    exact ⟨_, es', ep', hL, r'⟩) hok I.bare
theorem Inv.call {g' : Array GenState} {t' : Nat} {d' : Drawn} {ch : List Addr} (I : Inv X pins σ H s) (u : Un (frs X.stack) ch H H' s.heap h') (hok : HOk X.prog X.w H' h') (hg : AllBare g')
    (hch : ∀ b ∈ ch, (b ∈ X.ex ∨ X.s₀.heap.objs.size ≤ b) ∧ b ≠ X.env.locals ∧ (∀ x c, X.env.cells.lookup x = some c → c ≠ b) ∧ ∀ p ∈ X.pn ++ pins, p.1 ≠ b) :
    Inv X pins σ H' { s with heap := h', gens := g', drawn := d', toks := t' } := by
  obtain ⟨m, ⟨o, es, ep, ho, r⟩, _⟩ := id I.loc
  obtain ⟨sl, hL⟩ := u.any ho I.free fun z => (hch _ z).2.1 rfl
  exact I.step (ch := ch) hch (fun b o hL hb hc e n => u.keep b o e n (fun z => (List.mem_cons.mp (I.stkSub b z)).elim hL hb) hc) (fun b o _ _ hc e n => u.any e n hc) (fun b o hc e n => u.free b o e n hc) (fun b o hc e => u.there b o e hc) u.tups u.frzs u.tbls (fun m' hm => by
    obtain ⟨o', es', ep', ho', r'⟩ := hm
    rw [ho] at ho'; cases ho'
    exact ⟨_, es', ep', hL, r'⟩) hok hg
theorem Inv.turned {t' : Nat} {it : Addr} (I : Inv X pins σ H s) (k : ∀ b o, b ≠ it → s.heap.get? b = some o → h'.get? b = some o) (hn : H it = none) (hL : it ≠ X.env.locals)
    (h1 : it ∈ X.ex ∨ X.s₀.heap.objs.size ≤ it) (h2 : ∀ x c, X.env.cells.lookup x = some c → c ≠ it) (h3 : ∀ p ∈ X.pn ++ pins, p.1 ≠ it) : Inv X pins σ H { s with heap := h', toks := t' } := by
  have nit : ∀ b u, H b = some u → b ≠ it := fun b u e z => by rw [z, hn] at e; cases e
  refine I.step (g' := s.gens) (d' := s.drawn) (ch := [it]) (fun b hb => ?_) (fun b o _ _ hc e _ => k b o (fun z => hc (by simp [z])) e) (fun b o _ _ hc e _ => ⟨o.slots, k b o (fun z => hc (by simp [z])) e⟩) (fun _ _ _ _ n => n)
    (fun b o hc e => ⟨o, k b o (fun z => hc (by simp [z])) e⟩) (fun _ _ e => e) (fun _ _ _ e => e) (fun b ps e => ⟨#[], by rw [e]; simp⟩) (fun m hm => ?_) (fun b u e => ?_) I.bare
  · have e : b = it := by simpa using hb
    subst e
    exact ⟨h1, hL, h2, h3⟩
  · obtain ⟨o, es, ep, ho, r⟩ := hm
    exact ⟨o, es, ep, k _ o (Ne.symm hL) ho, r⟩
  · refine (I.hok b u e).stay (fun c v hc q => k c v ?_ q) (fun _ q => q) fun _ _ q => q
    rcases hc with z | z
    · rw [z]; exact nit b u e
    · exact nit c _ z
theorem Inv.tok (I : Inv X pins σ H s) (t : Nat) : Inv X pins σ H { s with toks := t } := I.un (h' := s.heap) (t' := t) Un.refl I.hok
theorem Inv.kept {t' : Nat} (I : Inv X pins σ H s) (k : ∀ b u, s.heap.get? b = some u → h'.get? b = some u) : Inv X pins σ H { s with heap := h', toks := t' } := I.un (Un.kept k) (I.hok.kept k)
theorem Inv.laid {a : Addr} {o : HO} {t' : Nat} (I : Inv X pins σ H s) (k : ∀ b u, s.heap.get? b = some u → h'.get? b = some u) (hp : s.heap.objs.size ≤ a) (new : ObjOk X.prog X.w (upd H a o) h' a o) :
    Inv X pins σ (upd H a o) { s with heap := h', toks := t' } := I.un (Un.laid k hp (I.hok.fresh hp)) (I.hok.laid k hp new)
theorem Inv.write {x e : Addr} {o : HO} {t' : Nat} (I : Inv X pins σ H s) (mu : Mut (H x)) (he : e = x ∨ H e = some (.own x)) (k : ∀ b u, b ≠ e → s.heap.get? b = some u → h'.get? b = some u) (heo : ∃ u, h'.get? e = some u)
    (new : ObjOk X.prog X.w (upd H x o) h' x o) : Inv X pins σ (upd H x o) { s with heap := h', toks := t' } := I.un (Un.write mu he k heo) (I.hok.write mu he k heo new)
theorem Inv.pins_of {pins' : List (Addr × Obj)} (I : Inv X pins σ H s) (h : ∀ p ∈ pins', s.heap.get? p.1 = some p.2 ∧ H p.1 = none ∧ p.1 ≠ X.env.locals ∧ p.1 ∉ X.fs ∧ ∀ v, p.2.data ≠ .cell v) : Inv X pins' σ H s :=
  ⟨I.ok, I.os, I.bare, I.base, I.loc, I.cell, I.free, I.freeC, fun p hp => (List.mem_append.mp hp).elim (fun z => I.pin p (List.mem_append_left _ z)) (h p), I.hok, I.len⟩
theorem nodup_ix {N : List Str} (hN : N.Nodup) {i j : Nat} {x : Str} (a : N[i]? = some x) (b : N[j]? = some x) : i = j := by
  obtain ⟨h1, e1⟩ := List.getElem?_eq_some_iff.mp a
  obtain ⟨h2, e2⟩ := List.getElem?_eq_some_iff.mp b
  exact (List.getElem_inj hN).mp (e1.trans e2.symm)
theorem store_ok2 {M : Model} {A : Around} {E : Value → Shared → Prop} {i : Nat} {x : Str} {v : V} {u : Value} {Q : Unit → Shared → Prop} (I : Inv X pins σ H s) (hN : X.N.Nodup) (hi : X.N[i]? = some x) (hx : Loc X.env.scope x) (r : RelV v u)
    (h : ∀ s', Inv X pins (σ.set i (some v)) H s' → (∃ a, Heap.SameBut a s.heap s'.heap ∧ (a = X.env.locals ∨ X.env.cells.lookup x = some a)) → Q () s') (hf : X.fn x = true ∨ X.env.scope.names.lookup x = some .local := by first | exact .inl rfl | exact .inr rfl | assumption) : wpAny M A (storeName X.env x u) Q E s := by
  obtain ⟨m, hn, hl⟩ := id I.loc
  have hcls : (X.env.scope.kind == .class || (X.env.scope.kind == .module && X.env.locals != X.env.globals)) = false := by rw [I.ok.kind]; rfl
  have hiσ : i < σ.length := by rw [I.len]; exact (List.getElem?_eq_some_iff.mp hi).1
  have cne := I.cne
  have tracked : ∀ {a : Addr} {h' : Heap}, (∃ o, s.heap.get? a = some o ∧ H a = none) → Heap.SameBut a s.heap h' → HOk X.prog X.w H h' := fun {a h'} ha hs b ob e => by
    obtain ⟨_, _, hfree⟩ := ha
    refine (I.hok b ob e).stay (fun c w' hc q => (hs.2 c ?_).trans q) (fun _ q => q) fun _ _ q => q
    rintro rfl
    rcases hc with rfl | hc
    · rw [hfree] at e; cases e
    · rw [hfree] at hc; cases hc
  rcases hx with hk | hk
  · refine wpAny_storeName_local hk hn (fun h' hn' hs => ?_) hcls
    obtain ⟨oL, _, _, hoL, _⟩ := id hn
    refine h _ ⟨I.ok, I.os, I.bare, ⟨fun b o e n hb hx => ?_, fun b o e n hb hx => ?_, I.base.free, fun b o e hx => ?_, I.base.tups, I.base.frzs, I.base.tbls⟩, ⟨_, hn', fun j y v' e1 e2 e3 => ?_⟩, fun y c e => ?_, I.free, I.freeC, fun p hp => ?_, tracked ⟨oL, hoL, I.free⟩ hs, by simpa using I.len⟩ ⟨_, hs, .inl rfl⟩
    · exact (hs.2 b (Nat.ne_of_lt (Nat.lt_of_lt_of_le (Heap.lt_size e) I.ok.above))).trans (I.base.keep b o e n hb hx)
    · obtain ⟨sl, e1⟩ := I.base.slot b o e n hb hx
      exact ⟨sl, (hs.2 b (Nat.ne_of_lt (Nat.lt_of_lt_of_le (Heap.lt_size e) I.ok.above))).trans e1⟩
    · obtain ⟨o', e1⟩ := I.base.there b o e hx
      exact ⟨o', (hs.2 b (Nat.ne_of_lt (Nat.lt_of_lt_of_le (Heap.lt_size e) I.ok.above))).trans e1⟩
    · by_cases hj : j = i
      · subst hj
        rw [hi] at e1; cases e1
        rw [List.getElem?_set_self hiσ] at e2
        cases e2
        exact ⟨u, r, .inl ⟨hk, by simp⟩⟩
      · rw [List.getElem?_set_ne (Ne.symm hj)] at e2
        obtain ⟨u', r', q⟩ := hl j y v' e1 e2 e3
        refine ⟨u', r', ?_⟩
        rcases q with ⟨k, e⟩ | ⟨k, c, e, z⟩
        · refine .inl ⟨k, ?_⟩
          have : y ≠ x := fun e => hj (nodup_ix hN e1 (e ▸ hi))
          simp [this, e]
        · exact .inr ⟨k, c, e, z.sameBut hs (cne y c e)⟩
    · obtain ⟨w', z⟩ := I.cell y c e
      exact ⟨w', z.sameBut hs (cne y c e)⟩
    · obtain ⟨e, n, ne, nf, d⟩ := I.pin p hp
      exact ⟨(hs.2 p.1 ne).trans e, n, ne, nf, d⟩
  · have hfn : X.fn x = true := by
      rcases hf with z | z
      · exact z
      · rw [z] at hk; cases hk
    obtain ⟨c, hc⟩ := I.ok.has x (.inl hk)
    obtain ⟨w', z⟩ := I.cell x c hc
    refine wpAny_storeName_cell I.ok.kind hk hc z (fun h' hc' hs => ?_)
    obtain ⟨oc, hoc, hocd⟩ := id z
    refine h { s with heap := h' } ⟨I.ok, I.os, I.bare, ⟨fun b o e n hb hx => ?_, fun b o e n hb hx => ?_, I.base.free, fun b o e hx => ?_, I.base.tups, I.base.frzs, I.base.tbls⟩, ⟨m, hn.sameBut hs (Ne.symm (cne x c hc)), fun j y v' e1 e2 e3 => ?_⟩, fun y c' e => ?_, I.free, I.freeC, fun p hp => ?_, tracked ⟨oc, hoc, I.freeC x c hc⟩ hs, by simpa using I.len⟩ ⟨c, hs, .inr hc⟩
    · exact (hs.2 b (Nat.ne_of_lt (Nat.lt_of_lt_of_le (Heap.lt_size e) (I.ok.cab x c hfn hc)))).trans (I.base.keep b o e n hb hx)
    · obtain ⟨sl, e1⟩ := I.base.slot b o e n hb hx
      exact ⟨sl, (hs.2 b (Nat.ne_of_lt (Nat.lt_of_lt_of_le (Heap.lt_size e) (I.ok.cab x c hfn hc)))).trans e1⟩
    · obtain ⟨o', e1⟩ := I.base.there b o e hx
      exact ⟨o', (hs.2 b (Nat.ne_of_lt (Nat.lt_of_lt_of_le (Heap.lt_size e) (I.ok.cab x c hfn hc)))).trans e1⟩
    · by_cases hj : j = i
      · subst hj
        rw [hi] at e1; cases e1
        rw [List.getElem?_set_self hiσ] at e2
        cases e2
        exact ⟨u, r, .inr ⟨.inl hk, c, hc, hc'⟩⟩
      · rw [List.getElem?_set_ne (Ne.symm hj)] at e2
        obtain ⟨u', r', q⟩ := hl j y v' e1 e2 e3
        refine ⟨u', r', ?_⟩
        rcases q with q | ⟨k, c', e, z'⟩
        · exact .inl q
        · refine .inr ⟨k, c', e, z'.sameBut hs ?_⟩
          rintro rfl
          exact hj (nodup_ix hN e1 (I.ok.inj _ _ _ e hc ▸ hi))
    · by_cases hcc : c' = c
      · subst hcc; exact ⟨_, hc'⟩
      · obtain ⟨w2, z2⟩ := I.cell y c' e
        exact ⟨w2, z2.sameBut hs hcc⟩
    · obtain ⟨e, n, ne, nf, d⟩ := I.pin p hp
      refine ⟨(hs.2 p.1 ?_).trans e, n, ne, nf, d⟩
      intro q
      rw [q, hoc] at e
      have q' : oc = p.2 := Option.some.inj e
      exact d w' (by rw [← q']; exact hocd)
theorem store_ok {M : Model} {A : Around} {E : Value → Shared → Prop} {i : Nat} {x : Str} {v : V} {u : Value} {Q : Unit → Shared → Prop} (I : Inv X pins σ H s) (hN : X.N.Nodup) (hi : X.N[i]? = some x) (hx : Loc X.env.scope x) (r : RelV v u)
    (h : ∀ s', Inv X pins (σ.set i (some v)) H s' → Q () s') (hf : X.fn x = true ∨ X.env.scope.names.lookup x = some .local := by first | exact .inl rfl | exact .inr rfl | assumption) : wpAny M A (storeName X.env x u) Q E s :=
  store_ok2 I hN hi hx r (fun s' I' _ => h s' I') hf
theorem Inv.call' {s' : Shared} {ch : List Addr} (I : Inv X pins σ H s) (ho : s'.os = s.os) (u : Un (frs X.stack) ch H H' s.heap s'.heap) (hok : HOk X.prog X.w H' s'.heap) (hg : AllBare s'.gens)
    (hch : ∀ b ∈ ch, (b ∈ X.ex ∨ X.s₀.heap.objs.size ≤ b) ∧ b ≠ X.env.locals ∧ (∀ x c, X.env.cells.lookup x = some c → c ≠ b) ∧ ∀ p ∈ X.pn ++ pins, p.1 ≠ b) : Inv X pins σ H' s' := by
  obtain ⟨h', g', d', t', o'⟩ := s'
  have e : o' = s.os := ho
  subst e
  exact I.call (g' := g') (t' := t') (d' := d') u hok hg hch
end
abbrev XK := Value → Option Addr → Hp → Prop
abbrev St := List (Option V)
abbrev VK := V → Hp → Prop
abbrev TE := St → Hp → VK → Prop
abbrev TT := St → Hp → (Bool → Hp → Prop) → Prop
abbrev TA := St → Hp → (List V → Hp → Prop) → Prop
structure Ends where
  nx : St → Hp → Prop
  rt : VK
  bk : St → Hp → Prop := fun _ _ => False
  ct : St → Hp → Prop := fun _ _ => False
abbrev TS := Ends → St → Hp → Prop
def EP (X : Cx) (pins : List (Addr × Obj)) (σ : St) (Q : VK) (u : Value) (s' : Shared) : Prop := ∃ v H', Inv X pins σ H' s' ∧ RelV v u ∧ Q v H'
def TP (X : Cx) (pins : List (Addr × Obj)) (σ : St) (Q : Bool → Hp → Prop) (b : Bool) (s' : Shared) : Prop := ∃ H', Inv X pins σ H' s' ∧ Q b H'
def AP (X : Cx) (pins : List (Addr × Obj)) (σ : St) (Q : List V → Hp → Prop) (us : List Value) (s' : Shared) : Prop := ∃ vs H', Inv X pins σ H' s' ∧ Vals vs us ∧ Q vs H'
def SP (X : Cx) (pins : List (Addr × Obj)) (D : Ends) (f : Flow) (s' : Shared) : Prop :=
  match f with
  | .next => ∃ σ' H', Inv X pins σ' H' s' ∧ D.nx σ' H'
  | .brk => ∃ σ' H', Inv X pins σ' H' s' ∧ D.bk σ' H'
  | .cont => ∃ σ' H', Inv X pins σ' H' s' ∧ D.ct σ' H'
  | .ret u => ∃ v σ' H', Inv X pins σ' H' s' ∧ RelV v u ∧ D.rt v H'
def PE (X : Cx) (e : Expr) (t : TE) : Prop :=
  ∀ (pins : List (Addr × Obj)) (s : Shared) (σ : St) (H : Hp) (Q : VK), Inv X pins σ H s → t σ H Q → wpAny (model X.prog X.w) X.A (eval e X.env) (EP X pins σ Q) X.xe s
def PT (X : Cx) (e : Expr) (t : TT) : Prop :=
  ∀ (pins : List (Addr × Obj)) (s : Shared) (σ : St) (H : Hp) (Q : Bool → Hp → Prop), Inv X pins σ H s → t σ H Q → wpAny (model X.prog X.w) X.A (isTrue e X.env (eval e X.env)) (TP X pins σ Q) X.xe s
def PW (X : Cx) (e : Expr) (t : TT) : Prop :=
  ∀ (whole : Sem Value) (pins : List (Addr × Obj)) (s : Shared) (σ : St) (H : Hp) (Q : Bool → Hp → Prop), Inv X pins σ H s → t σ H Q → wpAny (model X.prog X.w) X.A (isTrue e X.env whole) (TP X pins σ Q) X.xe s
theorem PW.pt {X : Cx} {e : Expr} {t : TT} (h : PW X e t) : PT X e t := h _
def PA (X : Cx) (es : List Expr) (t : TA) : Prop :=
  ∀ (pos : Pos) (pins : List (Addr × Obj)) (s : Shared) (σ : St) (H : Hp) (Q : List V → Hp → Prop), Inv X pins σ H s → t σ H Q → wpAny (model X.prog X.w) X.A (spliced (backTo pos (starEach es X.env))) (AP X pins σ Q) X.xe s
def PS (X : Cx) (st : Stmt) (t : TS) : Prop :=
  ∀ (pins : List (Addr × Obj)) (s : Shared) (σ : St) (H : Hp) (D : Ends), Inv X pins σ H s → t D σ H → wpAny (model X.prog X.w) X.A (exec st X.env) (SP X pins D) X.xe s
def PSs (X : Cx) (st : List Stmt) (t : TS) : Prop :=
  ∀ (pins : List (Addr × Obj)) (s : Shared) (σ : St) (H : Hp) (D : Ends), Inv X pins σ H s → t D σ H → wpAny (model X.prog X.w) X.A (execs st X.env) (SP X pins D) X.xe s
theorem thn {α : Type} {t : Sem α} {Q Q' : α → Shared → Prop} {M : Model} {A : Around} {E : Value → Shared → Prop} {s : Shared} (h : wpAny M A t Q E s) (hQ : ∀ a s, Q a s → Q' a s) : wpAny M A t Q' E s := wpAny_mono h hQ fun _ _ x => x
end L2
namespace L2
open PySem PySem.Spec PyProof.Rows
section
variable {X : Cx}
def tVar (i : Nat) : TE := fun σ H Q => ∃ v, σ[i]? = some (some v) ∧ Q v H
def tC (v : V) : TE := fun _ H Q => Q v H
theorem pe_var {i : Nat} {x : Str} {pos : Pos} (hN : X.N[i]? = some x) (hv : Vis X.env.scope x) (hd : (x == ("__debug__" : Str)) = false := by decide) (hcd : (x == ("__classdict__" : Str)) = false := by decide) : PE X (.Name x pos) (tVar i) := by
  intro pins s σ H Q I h
  obtain ⟨v, e, h⟩ := h
  obtain ⟨m, hn, hl⟩ := I.loc
  obtain ⟨u, r, l⟩ := hl i x v hN e hv
  have fin : EP X pins σ Q u s := ⟨v, H, I, r, h⟩
  rcases l with ⟨hk, hm⟩ | ⟨hk, c, hc, hcell⟩
  · exact wpAny_Name (wpAny_loadName_local I.ok.kind hk hn hm fin) hd
  · rcases hk with hk | hk
    · exact wpAny_Name (wpAny_loadName_cell I.ok.kind hk hc hcell fin) hd
    · exact wpAny_Name (wpAny_loadName_free I.ok.kind hk hc hcell fin hcd) hd
theorem pe_int {i j pos} : PE X (.Constant (.int i) j pos) (tC (.int i)) := fun _ _ _ H _ I h => wpAny_Constant_int ⟨.int i, H, I.tok _, ⟨_, rfl⟩, h⟩
theorem pe_bl {b j pos} : PE X (.Constant (.bool b) j pos) (tC (.bl b)) := fun _ _ _ H _ I h => Constant_bool ⟨.bl b, H, I, rfl, h⟩
theorem pe_non {j pos} : PE X (.Constant .none j pos) (tC .non) := fun _ _ _ H _ I h => Constant_none ⟨.non, H, I, rfl, h⟩
theorem pe_str {x j pos} : PE X (.Constant (.str x) j pos) (tC (.str x)) := fun _ _ _ H _ I h => Calls.Constant_str ⟨.str x, H, I.tok _, ⟨_, rfl⟩, h⟩
def Gl (X : Cx) (x : Str) : Prop := X.env.kindOf x = some .globalImplicit
theorem ld_glob {E : Value → Shared → Prop} {pins : List (Addr × Obj)} {s : Shared} {σ : St} {H : Hp} {x : Str} {u : Value} {pos : Pos} {Q : Value → Shared → Prop} (I : Inv X pins σ H s) (hg : Gl X x) (hm : X.mg x = some u) (h : Q u s)
    (hd : (x == ("__debug__" : Str)) = false := by decide) : wpAny (model X.prog X.w) X.A (eval (.Name x pos) X.env) Q E s :=
  Calls.Name_function_global I.ok.kind hg (Calls.loadGlobal_global (by rw [I.ok.glob]; exact I.mod.glob.keeps I.bk) hm h) hd
theorem ld_blt {E : Value → Shared → Prop} {pins : List (Addr × Obj)} {s : Shared} {σ : St} {H : Hp} {x : Str} {u : Value} {pos : Pos} {Q : Value → Shared → Prop} (I : Inv X pins σ H s) (hg : Gl X x) (hm : X.mg x = none) (hv : bootBuiltins x = some u) (h : Q u s)
    (hn : x ≠ "__name__" := by decide) (hd : (x == ("__debug__" : Str)) = false := by decide) : wpAny (model X.prog X.w) X.A (eval (.Name x pos) X.env) Q E s := by
  obtain ⟨mb, h1, h2⟩ := I.mod.blt
  exact Calls.Name_function_global I.ok.kind hg (Calls.loadGlobal_builtin (by rw [I.ok.glob]; exact I.mod.glob.keeps I.bk) hm (by rw [I.ok.blt]; exact h1.keeps I.bk) ((h2 x hn).trans hv) h) hd
theorem pe_glob {x : Str} {v : V} {u : Value} {pos : Pos} (hg : Gl X x) (hm : X.mg x = some u) (r : RelV v u) (hd : (x == ("__debug__" : Str)) = false := by decide) : PE X (.Name x pos) (tC v) :=
  fun _ _ _ H _ I h => ld_glob I hg hm ⟨v, H, I, r, h⟩ hd
theorem pe_bltn {x : Str} {v : V} {u : Value} {pos : Pos} (hg : Gl X x) (hm : X.mg x = none) (hv : bootBuiltins x = some u) (r : RelV v u) (hn : x ≠ "__name__" := by decide) (hd : (x == ("__debug__" : Str)) = false := by decide) : PE X (.Name x pos) (tC v) :=
  fun _ _ _ H _ I h => ld_blt I hg hm hv ⟨v, H, I, r, h⟩ hn hd
variable {a b : Expr} {ta tb : TE} {pos : Pos}
def tB (t : TE) : TT := fun σ H Q => t σ H fun x H1 => ∃ c, x = .bl c ∧ Q c H1
theorem pt_val {e : Expr} {t : TE} (h : PE X e t) (he : ∀ whole, isTrue e X.env whole = (do let v ← whole; standAt e.pos; holding [v] (truthy v)) := by intro _; rfl) : PT X e (tB t) := by
  intro pins s σ H Q I hw
  refine isTrue_plain (thn (h pins s σ H _ I hw) fun v s1 ⟨x, H1, I1, r1, q1⟩ => ?_) (he _)
  obtain ⟨d, rfl, q⟩ := q1
  cases r1
  exact wpAny_truthy_bool ⟨H1, I1, q⟩
variable {tA tB' : TT} {rest : List Expr}
def tAnd (t u : TT) : TT := fun σ H Q => t σ H fun c H1 => if c = true then u σ H1 Q else Q false H1
def tOr (t u : TT) : TT := fun σ H Q => t σ H fun c H1 => if c = true then Q true H1 else u σ H1 Q
def tNot (t : TT) : TT := fun σ H Q => t σ H fun c H1 => Q (!c) H1
theorem pw_and1 (ha : PT X a tA) : PW X (.BoolOp .And [a] pos) tA := by
  intro wh pins s σ H Q I h
  refine isTrue_and (thn (ha pins s σ H Q I h) fun c s1 e => ?_)
  cases c with
  | true => exact isTrue_and_nil e
  | false => exact e
theorem pw_or1 (ha : PT X a tA) : PW X (.BoolOp .Or [a] pos) tA := by
  intro wh pins s σ H Q I h
  refine isTrue_or (thn (ha pins s σ H Q I h) fun c s1 e => ?_)
  cases c with
  | false => exact isTrue_or_nil e
  | true => exact e
theorem pw_and (ha : PT X a tA) (hb : PW X (.BoolOp .And (b :: rest) pos) tB') : PW X (.BoolOp .And (a :: b :: rest) pos) (tAnd tA tB') := by
  intro wh pins s σ H Q I h
  refine isTrue_and (thn (ha pins s σ H _ I h) fun c s1 ⟨H1, I1, q1⟩ => ?_)
  cases c with
  | true => exact hb wh pins s1 σ H1 Q I1 q1
  | false => exact ⟨H1, I1, q1⟩
theorem pw_or (ha : PT X a tA) (hb : PW X (.BoolOp .Or (b :: rest) pos) tB') : PW X (.BoolOp .Or (a :: b :: rest) pos) (tOr tA tB') := by
  intro wh pins s σ H Q I h
  refine isTrue_or (thn (ha pins s σ H _ I h) fun c s1 ⟨H1, I1, q1⟩ => ?_)
  cases c with
  | true => exact ⟨H1, I1, q1⟩
  | false => exact hb wh pins s1 σ H1 Q I1 q1
theorem pt_not (ha : PT X a tA) : PT X (.UnaryOp .Not a pos) (tNot tA) := by
  intro pins s σ H Q I h
  exact isTrue_not (ha pins s σ H (fun c H1 => Q (!c) H1) I h)
def tAndV (ta tb : TE) : TE := fun σ H Q => ta σ H fun x H1 => ∃ c, x = .bl c ∧ if c = true then tb σ H1 Q else Q (.bl false) H1
def tOrV (ta tb : TE) : TE := fun σ H Q => ta σ H fun x H1 => ∃ c, x = .bl c ∧ if c = true then Q (.bl true) H1 else tb σ H1 Q
def tNotV (ta : TE) : TE := fun σ H Q => ta σ H fun x H1 => ∃ c, x = .bl c ∧ Q (.bl (!c)) H1
theorem pe_one {op} {t : TE} (h : PE X a t) : PE X (.BoolOp op [a] pos) t := fun pins s σ H Q I hw => BoolOp_one (h pins s σ H Q I hw)
theorem pe_and (ha : PE X a ta) (hb : PE X (.BoolOp .And (b :: rest) pos) tb) : PE X (.BoolOp .And (a :: b :: rest) pos) (tAndV ta tb) := by
  intro pins s σ H Q I h
  refine BoolOp_and (thn (ha pins s σ H _ I h) fun v s1 ⟨x, H1, I1, r1, q1⟩ => ?_)
  obtain ⟨c, rfl, q1⟩ := q1
  cases r1
  refine wpAny_truthy_bool ?_
  cases c with
  | true => exact hb pins s1 σ H1 Q I1 q1
  | false => exact ⟨.bl false, H1, I1, rfl, q1⟩
theorem pe_not (ha : PE X a ta) : PE X (.UnaryOp .Not a pos) (tNotV ta) := by
  intro pins s σ H Q I h
  refine UnaryOp_ (thn (ha pins s σ H _ I h) fun v s1 ⟨x, H1, I1, r1, q1⟩ => ?_)
  obtain ⟨c, rfl, q1⟩ := q1
  cases r1
  exact not_of (wpAny_truthy_bool ⟨.bl (!c), H1, I1, rfl, q1⟩)
def tIf (t : TT) (ta tb : TE) : TE := fun σ H Q => t σ H fun c H1 => if c = true then ta σ H1 Q else tb σ H1 Q
theorem pe_ifExp {c : Expr} (hc : PT X c tA) (ha : PE X a ta) (hb : PE X b tb) : PE X (.IfExp c a b pos) (tIf tA ta tb) := by
  intro pins s σ H Q I h
  refine wpAny_IfExp (thn (hc pins s σ H _ I h) fun d s1 ⟨H1, I1, q1⟩ => ?_)
  cases d with
  | true => exact ha pins s1 σ H1 Q I1 q1
  | false => exact hb pins s1 σ H1 Q I1 q1
end
end L2
namespace L2
open PySem PySem.Spec PyProof.Rows
def SqL (K : PySem.W.Frag) (H : Hp) (a : Addr) (xs : List V) : Prop :=
  Rd H a (.lst xs) ∨
    ∃ (o : Obj) (its : Array Value) (n : Nat), K.lookup a = some o ∧ o.cls = .type "list" ∧ o.dict = none ∧ o.data = .seq its n ∧ its.size ≤ sizeLine ∧ Vals xs its.toList
def SqT (K : PySem.W.Frag) (H : Hp) (a : Addr) (xs : List V) : Prop :=
  Rd H a (.tup xs) ∨
    ∃ (o : Obj) (its : Array Value) (n : Nat), K.lookup a = some o ∧ o.cls = .type "tuple" ∧ o.data = .seq its n ∧ its.size ≤ sizeLine ∧ Vals xs its.toList
def absV : Value → Option V
  | .none => some .non
  | .bool b => some (.bl b)
  | .int i _ => some (.int i)
  | .str x _ => some (.str x)
  | .bytes b _ => some (.byt b)
  | .float b _ => some (.flt b)
  | .ref a => some (.ref a)
  | .type n => some (.ty n)
  | _ => none
theorem RelV.abs {x : V} {u : Value} (r : RelV x u) : absV u = some x := by
  cases x with
  | non => cases r; rfl
  | bl _ => cases r; rfl
  | int _ => obtain ⟨t, rfl⟩ := r; rfl
  | str _ => obtain ⟨t, rfl⟩ := r; rfl
  | byt _ => obtain ⟨t, rfl⟩ := r; rfl
  | flt _ => obtain ⟨t, rfl⟩ := r; rfl
  | ref _ => cases r; rfl
  | ty _ => cases r; rfl
theorem RelV.inj {x y : V} {u : Value} (r : RelV x u) (q : RelV y u) : x = y := Option.some.inj (r.abs.symm.trans q.abs)
theorem Vals.inj : ∀ {xs ys : List V} {us : List Value}, Vals xs us → Vals ys us → xs = ys
  | _, _, _, .nil, .nil => rfl
  | _, _, _, .cons r t, .cons r' t' => by rw [r.inj r', Vals.inj t t']
section
variable {X : Cx} {pins : List (Addr × Obj)} {σ : St} {H : Hp} {s : Shared} {a : Addr} {xs ys : List V}
theorem SqL.of {K : PySem.W.Frag} (h : H a = some (.lst xs)) : SqL K H a xs := .inl (.inl h)
theorem SqT.of {K : PySem.W.Frag} (h : H a = some (.tup xs)) : SqT K H a xs := .inl (.inl h)
theorem Inv.list (I : Inv X pins σ H s) (h : SqL X.K H a xs) : ∃ its : List Value, Vals xs its ∧ PlainL s.heap a its.toArray ∧ xs.length ≤ sizeLine := by
  rcases h with h | ⟨o, its, n, hk, hc, hd, hs, hz, r⟩
  · obtain ⟨z, its, n, r, e⟩ := h.ok I.hok
    exact ⟨its, r, ⟨_, n, e, rfl, rfl, rfl⟩, z⟩
  · refine ⟨its.toList, r, ⟨o, n, I.kIn a o hk, hc, hd, by simpa using hs⟩, ?_⟩
    have e := r.length
    simp only [Array.length_toList] at e
    omega
theorem Inv.tuple (I : Inv X pins σ H s) (h : SqT X.K H a xs) : ∃ its : List Value, Vals xs its ∧ IsTup s.heap a its.toArray ∧ xs.length ≤ sizeLine := by
  rcases h with h | ⟨o, its, n, hk, hc, hs, hz, r⟩
  · obtain ⟨z, its, r, p⟩ := h.ok I.hok
    exact ⟨its, r, p, z⟩
  · refine ⟨its.toList, r, ⟨o, I.kIn a o hk, hc, n, by simpa using hs⟩, ?_⟩
    have e := r.length
    simp only [Array.length_toList] at e
    omega
theorem Inv.list_inj (I : Inv X pins σ H s) (h : SqL X.K H a xs) (h' : SqL X.K H a ys) : xs = ys := by
  obtain ⟨its, r, ⟨o, n, e, _, _, d⟩, _⟩ := I.list h
  obtain ⟨its', r', ⟨o', n', e', _, _, d'⟩, _⟩ := I.list h'
  rw [e] at e'; cases e'
  rw [d] at d'
  injection d' with d1 _
  have : its = its' := by simpa using congrArg Array.toList d1
  subst this
  exact r.inj r'
theorem Inv.tuple_inj (I : Inv X pins σ H s) (h : SqT X.K H a xs) (h' : SqT X.K H a ys) : xs = ys := by
  obtain ⟨its, r, ⟨o, e, _, n, d⟩, _⟩ := I.tuple h
  obtain ⟨its', r', ⟨o', e', _, n', d'⟩, _⟩ := I.tuple h'
  rw [e] at e'; cases e'
  rw [d] at d'
  injection d' with d1 _
  have : its = its' := by simpa using congrArg Array.toList d1
  subst this
  exact r.inj r'
end
abbrev Cx.wish (X : Cx) (E : Value → Shared → Prop) : Cx := { X with xe := E }
abbrev Cx.nox (X : Cx) : Cx := X.wish fun _ _ => False
theorem Cx.Ok.wish {X : Cx} (ok : X.Ok) (E : Value → Shared → Prop) : (X.wish E).Ok :=
  ⟨ok.mod, ok.kind, ok.glob, ok.blt, ok.above, ok.inj, ok.has, ok.cab, ok.hd, ok.frames, ok.stk, ok.exf, ok.bs, ok.bsz, ok.noex, ok.exfs, ok.funs, ok.frf⟩
theorem Cx.Ok.unwish {X : Cx} {E : Value → Shared → Prop} (ok : (X.wish E).Ok) : X.Ok :=
  ⟨ok.mod, ok.kind, ok.glob, ok.blt, ok.above, ok.inj, ok.has, ok.cab, ok.hd, ok.frames, ok.stk, ok.exf, ok.bs, ok.bsz, ok.noex, ok.exfs, ok.funs, ok.frf⟩
section
variable {X : Cx} {pins : List (Addr × Obj)} {σ : St} {H : Hp} {s : Shared} {E : Value → Shared → Prop}
theorem Inv.wish (I : Inv X pins σ H s) (E : Value → Shared → Prop) : Inv (X.wish E) pins σ H s := ⟨I.ok.wish E, I.os, I.bare, I.base, I.loc, I.cell, I.free, I.freeC, I.pin, I.hok, I.len⟩
theorem Inv.unwish (I : Inv (X.wish E) pins σ H s) : Inv X pins σ H s := ⟨I.ok.unwish, I.os, I.bare, I.base, I.loc, I.cell, I.free, I.freeC, I.pin, I.hok, I.len⟩
theorem SP.unwish {D : Ends} {f : Flow} {s' : Shared} (h : SP (X.wish E) pins D f s') : SP X pins D f s' := by
  cases f with
  | next => obtain ⟨σ', H', I, q⟩ := h; exact ⟨σ', H', I.unwish, q⟩
  | brk => obtain ⟨σ', H', I, q⟩ := h; exact ⟨σ', H', I.unwish, q⟩
  | cont => obtain ⟨σ', H', I, q⟩ := h; exact ⟨σ', H', I.unwish, q⟩
  | ret u => obtain ⟨v, σ', H', I, r, q⟩ := h; exact ⟨v, σ', H', I.unwish, r, q⟩
theorem PE.nox {e : Expr} {t : TE} (h : PE X.nox e t) : PE X e t := fun pins s σ H Q I hw =>
  wpAny_mono (h pins s σ H Q (I.wish _) hw) (fun _ _ ⟨v, H', I', r, q⟩ => ⟨v, H', I'.unwish, r, q⟩) fun _ _ z => False.elim z
theorem PT.nox {e : Expr} {t : TT} (h : PT X.nox e t) : PT X e t := fun pins s σ H Q I hw =>
  wpAny_mono (h pins s σ H Q (I.wish _) hw) (fun _ _ ⟨H', I', q⟩ => ⟨H', I'.unwish, q⟩) fun _ _ z => False.elim z
theorem PSs.nox {st : List Stmt} {t : TS} (h : PSs X.nox st t) : PSs X st t := fun pins s σ H D I hw =>
  wpAny_mono (h pins s σ H D (I.wish _) hw) (fun _ _ q => q.unwish) fun _ _ z => False.elim z
end
section
variable {X : Cx} {st : Stmt} {rest : List Stmt} {t u : TS} {e : Expr} {te : TE} {pos : Pos}
def tNext : TS := fun D σ H => D.nx σ H
def tSeq (t u : TS) : TS := fun D σ H => t { D with nx := u D } σ H
theorem pss_nil : PSs X [] tNext := fun _ _ σ H _ I h => wpAny_execs_nil ⟨σ, H, I, h⟩
theorem pss_cons (h1 : PS X st t) (h2 : PSs X rest u) : PSs X (st :: rest) (tSeq t u) := by
  intro pins s σ H D I h
  refine wpAny_execs_cons (thn (h1 pins s σ H { D with nx := u D } I h) fun f s1 q => ?_)
  cases f with
  | next =>
    obtain ⟨σ', H', I', q⟩ := q
    exact h2 pins s1 σ' H' D I' q
  | ret v => exact q
  | brk => exact q
  | cont => exact q
theorem pss_one (h1 : PS X st t) : PSs X [st] t := by
  intro pins s σ H D I h
  refine wpAny_execs_cons (thn (h1 pins s σ H D I h) fun f s1 q => ?_)
  cases f with
  | next => exact wpAny_execs_nil q
  | ret v => exact q
  | brk => exact q
  | cont => exact q
def tBreak : TS := fun D σ H => D.bk σ H
theorem Inv.quiet {pins : List (Addr × Obj)} {σ : St} {H : Hp} {s : Shared} (I : Inv X pins σ H s) : interactive X.env = false := by simp [interactive, I.ok.kind]
def tDrop (te : TE) : TS := fun D σ H => te σ H fun _ H1 => D.nx σ H1
theorem ps_expr (he : PE X e te) (hs : swapsWith e none pos.line X.env = pure false := by rfl) : PS X (.Expr e pos) (tDrop te) := by
  intro pins s σ H D I h
  exact wpAny_Expr_any (thn (he pins s σ H _ I h) fun v s1 ⟨x, H1, I1, r1, q1⟩ => ⟨σ, H1, I1, q1⟩) I.quiet hs
def tRet (te : TE) : TS := fun D σ H => te σ H D.rt
theorem ps_ret (he : PE X e te) : PS X (.Return (some e) pos) (tRet te) := by
  intro pins s σ H D I h
  exact wpAny_Return_some (thn (he pins s σ H _ I h) fun v s1 ⟨x, H1, I1, r1, q1⟩ => ⟨x, σ, H1, I1, r1, q1⟩)
def tRetN : TS := fun D _ H => D.rt .non H
def tIfS (c : TT) (t u : TS) : TS := fun D σ H => c σ H fun b H1 => if b = true then t D σ H1 else u D σ H1
theorem ps_if {c : Expr} {a b : List Stmt} {tc : TT} (hc : PT X c tc) (ha : PSs X a t) (hb : PSs X b u) : PS X (.If c a b pos) (tIfS tc t u) := by
  intro pins s σ H D I h
  refine wpAny_If (thn (hc pins s σ H _ I h) fun d s1 ⟨H1, I1, q1⟩ => ?_)
  cases d with
  | true => exact ha pins s1 σ H1 D I1 q1
  | false => exact hb pins s1 σ H1 D I1 q1
end
abbrev TG := V → St → Hp → (St → Hp → Prop) → Prop
abbrev TGs := List V → St → Hp → (St → Hp → Prop) → Prop
def PG (X : Cx) (target : Expr) (t : TG) : Prop :=
  ∀ (pins : List (Addr × Obj)) (s : Shared) (σ : St) (H : Hp) (v : V) (u : Value) (Q : St → Hp → Prop), Inv X pins σ H s → RelV v u → t v σ H Q →
    wpAny (model X.prog X.w) X.A (assign target X.env u) (fun _ s' => ∃ σ' H', Inv X pins σ' H' s' ∧ Q σ' H') X.xe s
def PGs (X : Cx) (ts : List Expr) (t : TGs) : Prop :=
  ∀ (pins : List (Addr × Obj)) (s : Shared) (σ : St) (H : Hp) (vs : List V) (us : List Value) (Q : St → Hp → Prop), Inv X pins σ H s → Vals vs us → t vs σ H Q →
    wpAny (model X.prog X.w) X.A (assignInOrder ((assignEach ts X.env).map (·.2)) us) (fun _ s' => ∃ σ' H', Inv X pins σ' H' s' ∧ Q σ' H') X.xe s
abbrev TSet := V → V → V → Hp → (Hp → Prop) → Prop
def PSet (X : Cx) (t : TSet) : Prop :=
  ∀ (pins : List (Addr × Obj)) (s : Shared) (σ : St) (H : Hp) (o i v : V) (ov iv u : Value) (Q : Hp → Prop), Inv X pins σ H s → RelV o ov → RelV i iv → RelV v u → t o i v H Q →
    wpAny (model X.prog X.w) X.A (setItem ov iv u) (fun _ s' => ∃ H', Inv X pins σ H' s' ∧ Q H') X.xe s
abbrev TIp := V → V → Hp → VK → Prop
section
variable {X : Cx} {pos : Pos}
def gName (i : Nat) : TG := fun v σ H Q => Q (σ.set i (some v)) H
theorem pg_name {i : Nat} {x : Str} (hN : X.N.Nodup) (hi : X.N[i]? = some x) (hx : Loc X.env.scope x) (hf : X.fn x = true ∨ X.env.scope.names.lookup x = some .local := by first | exact .inl rfl | exact .inr rfl | assumption) : PG X (.Name x pos) (gName i) := by
  intro pins s σ H v u Q I r h
  exact wpAny_assign_Name (store_ok I hN hi hx r (fun s' I' => ⟨_, H, I', h⟩) hf)
def gNil : TGs := fun vs σ H Q => vs = [] ∧ Q σ H
def gCons (t : TG) (u : TGs) : TGs := fun vs σ H Q => ∃ v r, vs = v :: r ∧ t v σ H fun σ' H' => u r σ' H' Q
theorem pgs_nil : PGs X [] gNil := by
  intro pins s σ H vs us Q I r h
  obtain ⟨e, h⟩ := h
  subst e
  cases r
  exact assignInOrder_nil ⟨σ, H, I, h⟩
theorem pgs_cons {e : Expr} {es : List Expr} {t : TG} {u : TGs} (h1 : PG X e t) (h2 : PGs X es u)
    (hs : (assignEach (e :: es) X.env).map (·.2) = assign e X.env :: (assignEach es X.env).map (·.2) := by rfl) : PGs X (e :: es) (gCons t u) := by
  intro pins s σ H vs us Q I r h
  obtain ⟨v, vr, e1, h⟩ := h
  subst e1
  cases r with
  | cons r rr =>
    rw [hs]
    refine assignInOrder_cons (thn (h1 pins s σ H _ _ _ I r h) fun _ s1 ⟨σ1, H1, I1, q1⟩ => ?_)
    exact h2 pins s1 σ1 H1 _ _ Q I1 rr q1
def gTup (K : PySem.W.Frag) (n : Nat) (t : TGs) : TG := fun v σ H Q => ∃ a xs, v = .ref a ∧ SqT K H a xs ∧ xs.length = n ∧ t xs σ H Q
theorem pg_tup {es : List Expr} {k : Nat} {t : TGs} {n : Nat} (hc : X.calm = true) (h : PGs X es t)
    (hn : (assignEach es X.env).length = n := by rfl) (hst : (assignEach es X.env).findIdx? (·.1) = none := by rfl) : PG X (.Tuple es k pos) (gTup X.K n t) := by
  intro pins s σ H v u Q I r hw
  obtain ⟨a, xs, e1, hq, hl, hw⟩ := hw
  subst e1
  cases r
  obtain ⟨its, rv, ht, hz⟩ := I.tuple hq
  refine assign_Tuple_tuple (I.ok.hd hc) ht (by simp [hn, ← hl, rv.length]) hst fun h' hx => ?_
  have I1 : Inv X pins σ H { s with heap := h' } := I.kept (t' := s.toks) fun b o e => hx b o (Nat.ne_of_lt (Heap.lt_size e)) e
  exact h pins _ σ H xs _ Q I1 (by simpa using rv) hw
def gSub (to ti : TE) (t : TSet) : TG := fun v σ H Q => to σ H fun o H1 => ti σ H1 fun i H2 => t o i v H2 fun H3 => Q σ H3
theorem pg_sub {o i : Expr} {to ti : TE} {t : TSet} (ho : PE X o to) (hi : PE X i ti) (hs : PSet X t)
    (ha : ∀ v, assign (.Subscript o i pos) X.env v = (do
      let ov ← holding [v] (eval o X.env)
      let iv ← holding [v, ov] (eval i X.env)
      standAt pos
      holding [v, ov, iv] (setItem ov iv v)
      release [v, ov, iv] []) := by intro _; rfl) : PG X (.Subscript o i pos) (gSub to ti t) := by
  intro pins s σ H v u Q I r h
  rw [ha]
  refine wpAny_bind (wpAny_holding (thn (ho pins s σ H _ I h) fun ov s1 ⟨x, H1, I1, r1, q1⟩ => ?_))
  refine wpAny_bind (wpAny_holding (thn (hi pins s1 σ H1 _ I1 q1) fun iv s2 ⟨y, H2, I2, r2, q2⟩ => ?_))
  refine wpAny_bind (wpAny_standAt (wpAny_bind (wpAny_holding (thn (hs pins s2 σ H2 x y v ov iv u _ I2 r1 r2 r q2) fun _ s3 ⟨H3, I3, q3⟩ => ?_))))
  exact wpAny_release ⟨σ, H3, I3, q3⟩
def tAsg (te : TE) (g : TG) : TS := fun D σ H => te σ H fun x H1 => g x σ H1 D.nx
theorem ps_asg {tg e : Expr} {te : TE} {g : TG} (he : PE X e te) (hg : PG X tg g) (hs : swapsWithSole [tg] e pos.line X.env = pure false := by rfl) (hw : swappedStores [tg] e X.env = pure none := by rfl)
    (h1 : (assignEach [tg] X.env).map (·.2) = [assign tg X.env] := by rfl) : PS X (.Assign [tg] e pos) (tAsg te g) := by
  intro pins s σ H D I h
  refine wpAny_Assign_stores (thn (he pins s σ H _ I h) fun v s1 ⟨x, H1, I1, r1, q1⟩ => ?_) hs hw
  rw [h1]
  exact thn (hg pins s1 σ H1 x v _ I1 r1 q1) fun _ s2 q => q
theorem ps_set {i : Nat} {x : Str} {e : Expr} {te : TE} {pos' : Pos} (hN : X.N.Nodup) (hi : X.N[i]? = some x) (hx : Loc X.env.scope x) (he : PE X e te) (hs : swapsWith e (some (.Name x pos')) pos.line X.env = pure false := by rfl) (hf : X.fn x = true ∨ X.env.scope.names.lookup x = some .local := by first | exact .inl rfl | exact .inr rfl | assumption) :
    PS X (.Assign [.Name x pos'] e pos) (tAsg te (gName i)) := by
  intro pins s σ H D I h
  refine wpAny_Assign_Name (thn (he pins s σ H _ I h) fun v s1 ⟨y, H1, I1, r1, q1⟩ => ?_) hs
  exact store_ok I1 hN hi hx r1 (fun s2 I2 => ⟨_, H1, I2, q1⟩) hf
def tPar (i j : Nat) (ta : TA) : TS := fun D σ H => ta σ H fun vs H1 => ∃ v w, vs = [v, w] ∧ D.nx ((σ.set i (some v)).set j (some w)) H1
def tAugS (to ti te : TE) (tget : V → V → Hp → VK → Prop) (tip : TIp) (tset : TSet) : TS := fun D σ H => to σ H fun o H1 => ti σ H1 fun i H2 => tget o i H2 fun x H3 => te σ H3 fun y H4 => tip x y H4 fun z H5 => tset o i z H5 fun H6 => D.nx σ H6
def ipI (f : Int → Int → Int) : TIp := fun x y H Q => ∃ i j, x = .int i ∧ y = .int j ∧ Q (.int (f i j)) H
end
section
variable {X : Cx} {pos : Pos}
def tWhile (c : TT) (tb : TS) : TS := fun D σ H => ∃ W : Nat → St → Hp → Prop, (∃ m, W m σ H) ∧ ∀ m σ H, W m σ H →
  c σ H fun b H1 => if b = true then ∃ N : St → Hp → Prop, (∀ σ' H', N σ' H' → ∃ m', m' < m ∧ W m' σ' H') ∧ tb { D with nx := N, ct := N, bk := D.nx } σ H1 else D.nx σ H1
theorem ps_while {c : Expr} {body : List Stmt} {tc : TT} {tb : TS} (hp : PassesOwn (model X.prog X.w) X.A X.env X.xe) (hc : PT X c tc) (hb : PSs X body tb) : PS X (.While c body [] pos) (tWhile tc tb) := by
  intro pins s σ H D I h
  obtain ⟨W, ⟨m0, w0⟩, turn⟩ := h
  refine wpAny_While (codeAny_whileLoop (fun n s' => ∃ σ' H', Inv X pins σ' H' s' ∧ W n σ' H') ?_ m0 ⟨σ, H, I, w0⟩)
  rintro n s1 ⟨σ1, H1, I1, w1⟩
  refine wpAny_passesOwn hp (thn (hc pins s1 σ1 H1 _ I1 (turn n σ1 H1 w1)) fun b s2 ⟨H2, I2, q2⟩ => ?_)
  cases b with
  | true =>
    obtain ⟨N, hN, q2⟩ := q2
    rw [if_pos rfl]
    refine wpAny_passesOwn hp (thn (hb pins s2 σ1 H2 _ I2 q2) fun f s3 q3 => ?_)
    cases f with
    | next =>
      obtain ⟨σ3, H3, I3, n3⟩ := q3
      obtain ⟨m', hm, w3⟩ := hN σ3 H3 n3
      exact ⟨m', hm, σ3, H3, I3, w3⟩
    | cont =>
      obtain ⟨σ3, H3, I3, n3⟩ := q3
      obtain ⟨m', hm, w3⟩ := hN σ3 H3 n3
      exact ⟨m', hm, σ3, H3, I3, w3⟩
    | brk => exact q3
    | ret v => exact q3
  | false =>
    rw [if_neg Bool.false_ne_true]
    exact wpAny_execs_nil ⟨σ1, H2, I2, q2⟩
end
structure It where
  go : Nat → Hp → Prop
  yld : Nat → Hp → V → Hp → Prop
  stop : Nat → Hp → Prop
def FpOk (X : Cx) (pins : List (Addr × Obj)) (H : Hp) (b : Addr) : Prop :=
  H b = none ∧ b ≠ X.env.locals ∧ b ∉ X.fs ∧ (b ∈ X.ex ∨ X.s₀.heap.objs.size ≤ b) ∧ (∀ x c, X.env.cells.lookup x = some c → c ≠ b) ∧ ∀ p ∈ X.pn ++ pins, p.1 ≠ b
theorem Inv.fpOk {X : Cx} {pins : List (Addr × Obj)} {σ : St} {H H' : Hp} {s : Shared} {b : Addr} (I : Inv X pins σ H s) (hb : s.heap.objs.size ≤ b) (hn : H' b = none) : FpOk X pins H' b := by
  refine ⟨hn, Nat.ne_of_gt (Nat.lt_of_lt_of_le I.lt hb), I.nofs hb, .inr (Nat.le_trans I.sz hb), fun x c e z => ?_, fun p hp z => ?_⟩
  · obtain ⟨v, q⟩ := I.cell x c e
    exact absurd (Nat.lt_of_lt_of_le q.lt (by rw [z]; exact hb)) (Nat.lt_irrefl _)
  · exact absurd (Nat.lt_of_lt_of_le (Heap.lt_size (I.pin p hp).1) (by rw [z]; exact hb)) (Nat.lt_irrefl _)
structure Turn (P : Program) (w : World) (K : PySem.W.Frag) (tg : Expr) (J : It) (fp : List Addr) (it : Addr) (tn : Nat → Heap → Prop) : Prop where
  mem : it ∈ fp
  obj : ∀ i h, tn i h → ∀ b ∈ fp, ∃ o, h.get? b = some o ∧ ∀ v, o.data ≠ .cell v
  keep : ∀ i h h', tn i h → (∀ b ∈ fp, ∀ o, h.get? b = some o → h'.get? b = some o) → tn i h'
  item : ∀ (X : Cx), X.prog = P → X.w = w → X.K = K → X.calm = true → ∀ (i : Nat) (pins : List (Addr × Obj)) (s : Shared) (σ : St) (H : Hp) (E : Value → Shared → Prop), Inv X pins σ H s → (∀ b ∈ fp, FpOk X pins H b) → tn i s.heap → J.go i H →
    wpAny (model P w) X.A (pyNext (.ref it)) (fun r s1 => ∃ u, r = some u ∧
      wpAny (model P w) X.A (letOwnedTupleGo tg (.ref it) u) (fun _ s2 => ∃ x H', Inv X pins σ H' s2 ∧ RelV x u ∧ J.yld i H x H' ∧ tn (i + 1) s2.heap ∧ ∀ b ∈ fp, H' b = none) E s1) E s
  done : ∀ (X : Cx), X.prog = P → X.w = w → X.K = K → X.calm = true → ∀ (i : Nat) (pins : List (Addr × Obj)) (s : Shared) (σ : St) (H : Hp) (E : Value → Shared → Prop), Inv X pins σ H s → (∀ b ∈ fp, FpOk X pins H b) → tn i s.heap → J.stop i H →
    wpAny (model P w) X.A (pyNext (.ref it)) (fun r s1 => r = none ∧ Inv X pins σ H s1) E s
  self : ∀ (A : Around) (i : Nat) (s : Shared) (Q : Value → Shared → Prop) (E : Value → Shared → Prop), tn i s.heap → Q (.ref it) s → wpAny (model P w) A (pyIter (.ref it)) Q E s
abbrev TI := St → Hp → (It → Hp → Prop) → Prop
def PIE (X : Cx) (pins : List (Addr × Obj)) (σ : St) (tg : Expr) (R : It → Hp → Prop) (itv : Value) (s2 : Shared) : Prop :=
  ∃ (it : Addr) (fp : List Addr) (tn : Nat → Heap → Prop) (J : It) (H' : Hp), itv = .ref it ∧ Inv X pins σ H' s2 ∧ Turn X.prog X.w X.K tg J fp it tn ∧ tn 0 s2.heap ∧ (∀ b ∈ fp, FpOk X pins H' b) ∧ R J H'
def PI (X : Cx) (tg iter : Expr) (wi : TI) : Prop :=
  ∀ (pins : List (Addr × Obj)) (s : Shared) (σ : St) (H : Hp) (R : It → Hp → Prop), Inv X pins σ H s → wi σ H R →
    wpAny (model X.prog X.w) X.A (eval iter X.env) (fun v s1 => wpAny (model X.prog X.w) X.A (pyIter v) (PIE X pins σ tg R) X.xe s1) X.xe s
theorem go_of {M : Model} {A : Around} {E : Value → Shared → Prop} {s : Shared} {tg : Expr} {it : Addr} {u : Value} {o : Obj} {n : String} {vs : Array Value} {Q : Unit → Shared → Prop} (ho : s.heap.get? it = some o) (hc : o.cls = .type n) (hd : o.data = .fields vs)
    (hn : ["enumerate", "zip", "dict_itemiterator", "dict_reverseitemiterator", "odict_iterator", "itertools.zip_longest", "itertools.pairwise"].contains n = false) (hQ : Q () s) : wpAny M A (letOwnedTupleGo tg (.ref it) u) Q E s := by
  unfold letOwnedTupleGo
  cases tg <;> first
    | exact wpAny_pure hQ
    | (cases u <;> first
        | exact wpAny_pure hQ
        | (refine wpAny_bind (wpAny_load ho ?_)
           rw [hc, hd]
           show wpAny M A (if (["enumerate", "zip", "dict_itemiterator", "dict_reverseitemiterator", "odict_iterator", "itertools.zip_longest", "itertools.pairwise"].contains n && vs[0]? == some (rawInt _)) = true then _ else _) Q E s
           rw [if_neg (by intro h; rw [hn, Bool.false_and] at h; cases h)]
           exact wpAny_pure hQ))
def Itl (K : PySem.W.Frag) (a : Addr) : It :=
  ⟨fun i H => ∃ xs x, SqL K H a xs ∧ xs[i]? = some x, fun i H x H' => H' = H ∧ ∀ xs, SqL K H a xs → xs[i]? = some x, fun i H => ∃ xs, SqL K H a xs ∧ xs.length ≤ i⟩
def Itr (lo : Int) (n : Nat) : It := ⟨fun i _ => i < n, fun i H x H' => H' = H ∧ x = .int (lo + i), fun i _ => n ≤ i⟩
theorem turn_list {P : Program} {w : World} {K : PySem.W.Frag} {tg : Expr} (a it : Addr) : Turn P w K tg (Itl K a) [it] it (fun i h => h.IsListIter it a i) where
  mem := by simp
  obj := fun i h st b hb => by
    have e : b = it := by simpa using hb
    subst e
    obtain ⟨o, e, c, d⟩ := st
    exact ⟨o, e, fun v z => by rw [d] at z; cases z⟩
  keep := fun i h h' st k => st.at fun o e => k it (by simp) o e
  item := by
    intro X hP hw hK hc i pins s σ H E I hf st hg
    subst hP hw hK
    obtain ⟨xs, x, hq, hx⟩ := hg
    obtain ⟨its, rv, p, hz⟩ := I.list hq
    obtain ⟨u, hu, ru⟩ := rv.get hx
    obtain ⟨f0, f1, f2, f3, f4, f5⟩ := hf it (by simp)
    refine wpAny_pyNext_list_item st p.isList (x := u) (by simpa using hu) fun h' st' sb => ?_
    have I1 : Inv X pins σ H { s with heap := h' } := I.turned (t' := s.toks) (fun b o hb e => (sb.2 b hb).trans e) f0 f1 f3 f4 f5
    obtain ⟨o, e, c, d⟩ := id st'
    exact ⟨u, rfl, go_of (s := { s with heap := h' }) e c d (by decide) ⟨x, H, I1, ru, ⟨rfl, fun ys hy => by rw [I.list_inj hy hq]; exact hx⟩, st', fun b hb => (hf b hb).1⟩⟩
  done := by
    intro X hP hw hK hc i pins s σ H E I hf st hg
    subst hP hw hK
    obtain ⟨xs, hq, hx⟩ := hg
    obtain ⟨its, rv, p, hz⟩ := I.list hq
    obtain ⟨f0, f1, f2, f3, f4, f5⟩ := hf it (by simp)
    have hl := rv.length
    exact wpAny_pyNext_list_end (I.ok.hd hc) st p.isList (by simp; omega) fun h' eb => ⟨rfl, I.turned (t' := s.toks) (fun b o hb e => eb b o hb e) f0 f1 f3 f4 f5⟩
  self := fun _ _ _ _ _ st h => wpAny_pyIter_listiter st h
theorem turn_range {P : Program} {w : World} {K : PySem.W.Frag} {tg : Expr} (it : Addr) (lo : Int) (n : Nat) : Turn P w K tg (Itr lo n) [it] it (fun i h => IsRangeIter h it (lo + (i : Nat) * 1) ((n : Int) - (i : Nat)) 1) where
  mem := by simp
  obj := fun i h st b hb => by
    have e : b = it := by simpa using hb
    subst e
    exact ⟨_, st, fun v z => by
      have z' : Data.fields _ = Data.cell v := z
      cases z'⟩
  keep := fun i h h' st k => k it (by simp) _ st
  item := by
    intro X hP hw hK hc i pins s σ H E I hf st hg
    subst hP hw hK
    obtain ⟨f0, f1, f2, f3, f4, f5⟩ := hf it (by simp)
    have W := Walks.range (prog := X.prog) (w := X.w) (I.ok.hd hc) it lo 1 n
    refine W.item i s _ _ hg st fun v h' tk hv st' kk => ?_
    obtain ⟨t, rfl⟩ := hv
    have I1 : Inv X pins σ H { s with heap := h', toks := tk } := I.turned (fun b o hb e => kk b o (by simpa using hb) e) f0 f1 f3 f4 f5
    refine ⟨_, rfl, go_of (s := { s with heap := h', toks := tk }) (n := "range_iterator") st' rfl rfl (by decide) ⟨.int (lo + i), H, I1, ⟨t, ?_⟩, ⟨rfl, rfl⟩, st', fun b hb => (hf b hb).1⟩⟩
    rw [Int.mul_one]
  done := by
    intro X hP hw hK hc i pins s σ H E I hf st hg
    subst hP hw hK
    obtain ⟨f0, f1, f2, f3, f4, f5⟩ := hf it (by simp)
    exact wpAny_pyNext_range_end (I.ok.hd hc) st (by have : n ≤ i := hg; omega) fun h' eb => ⟨rfl, I.turned (t' := s.toks) (fun b o hb e => eb b o hb e) f0 f1 f3 f4 f5⟩
  self := fun _ _ _ _ _ st h => wpAny_pyIter_rangeiter st h
end L2
namespace L2
open PySem PySem.Spec PyProof.Rows
section
variable {X : Cx} {tg : Expr}
def iList (K : PySem.W.Frag) (tl : TE) : TI := fun σ H R => tl σ H fun x H1 => ∃ a, x = .ref a ∧ (∃ xs, SqL K H1 a xs) ∧ R (Itl K a) H1
theorem pi_list {l : Expr} {tl : TE} (hl : PE X l tl) : PI X tg l (iList X.K tl) := by
  intro pins s σ H R I h
  refine thn (hl pins s σ H _ I h) fun v s1 ⟨x, H1, I1, r1, q1⟩ => ?_
  obtain ⟨a, e, ⟨xs, hq⟩, q⟩ := q1
  subst e
  cases r1
  obtain ⟨its, rv, p, hz⟩ := I1.list hq
  refine wpAny_pyIter_list p.isList ?_
  refine ⟨s1.heap.objs.size, [s1.heap.objs.size], _, _, H1, rfl, I1.kept (t' := s1.toks) fun b o e => Heap.get?_push_of_some _ e, turn_list a _, ⟨_, Heap.get?_push_size _ rfl, rfl, rfl⟩, fun b hb => ?_, q⟩
  have e : b = s1.heap.objs.size := by simpa using hb
  subst e
  exact I1.fpOk (Nat.le_refl _) (I1.hok.fresh (Nat.le_refl _))
theorem range_it {pins : List (Addr × Obj)} {σ : St} {H : Hp} {s : Shared} {R : It → Hp → Prop} {E : Value → Shared → Prop} {lo hi : Int} {t u v : Tok} {tk : Nat} (I : Inv X pins σ H s) (h1 : -(2 ^ 62) ≤ lo) (h2 : lo < 2 ^ 62) (h3 : -(2 ^ 62) ≤ hi) (h4 : hi < 2 ^ 62)
    (q : R (Itr lo (hi - lo).toNat) H) : wpAny (model X.prog X.w) X.A (pyIter (.ref s.heap.objs.size)) (PIE X pins σ tg R) E { s with heap := s.heap.push { cls := .type "range", data := .fields #[.int lo t, .int hi u, .int 1 v] }, toks := tk } := by
  refine wpAny_pyIter_range (IsRange.new ..) (small_one h1 h2 h3 h4) ?_
  have I1 : Inv X pins σ H { s with heap := s.heap.push { cls := .type "range", data := .fields #[.int lo t, .int hi u, .int 1 v] }, toks := tk } := I.kept fun b o e => Heap.get?_push_of_some _ e
  refine ⟨(s.heap.push { cls := .type "range", data := .fields #[.int lo t, .int hi u, .int 1 v] }).objs.size, [(s.heap.push { cls := .type "range", data := .fields #[.int lo t, .int hi u, .int 1 v] }).objs.size], _, _, H, rfl,
    I1.kept (t' := tk) fun b o e => Heap.get?_push_of_some _ e, turn_range _ lo (hi - lo).toNat, ?_, fun b hb => ?_, q⟩
  · have e1 : lo + ((0 : Nat) : Int) * 1 = lo := by simp
    have e2 : (((hi - lo).toNat : Nat) : Int) - ((0 : Nat) : Int) = Builtin.Range.rangeSize lo hi 1 := by rw [rangeSize_one]; split <;> omega
    show IsRangeIter _ _ (lo + ((0 : Nat) : Int) * 1) ((((hi - lo).toNat : Nat) : Int) - ((0 : Nat) : Int)) 1
    rw [e1, e2]
    exact Heap.get?_push_size _ rfl
  · have e : b = (s.heap.push { cls := .type "range", data := .fields #[.int lo t, .int hi u, .int 1 v] }).objs.size := by simpa using hb
    subst e
    exact I1.fpOk (Nat.le_refl _) (I1.hok.fresh (Nat.le_refl _))
def iRng1 (ta : TA) : TI := fun σ H R => ta σ H fun vs H1 => ∃ j : Int, vs = [.int j] ∧ -(2 ^ 62) ≤ j ∧ j < 2 ^ 62 ∧ R (Itr 0 j.toNat) H1
def iRng2 (ta : TA) : TI := fun σ H R => ta σ H fun vs H1 => ∃ i j : Int, vs = [.int i, .int j] ∧ (-(2 ^ 62) ≤ i ∧ i < 2 ^ 62 ∧ -(2 ^ 62) ≤ j ∧ j < 2 ^ 62) ∧ R (Itr i (j - i).toNat) H1
theorem pi_range1 {a : Expr} {ta : TA} {p pos : Pos} (hg : Gl X "range") (hm : X.mg "range" = none) (ha : PA X [a] ta) (hs : starEach [a] X.env = [(false, eval a X.env)] := by rfl) : PI X tg (.Call (.Name "range" p) [a] [] pos) (iRng1 ta) := by
  intro pins s σ H R I h
  refine Call_ (ld_blt I hg hm boot_range (PyProof.Rows.callWith_type1 (thn (ha pos pins s σ H _ I h) fun us s1 ⟨vs, H1, I1, r1, q1⟩ => ?_) hs rfl))
  obtain ⟨j, e, q1, q2, q⟩ := q1
  subst e
  cases r1 with
  | cons r rr =>
    cases rr
    obtain ⟨t, rfl⟩ := r
    exact call_range_1 (range_it I1 (by omega) (by omega) q1 q2 (by simpa using q))
theorem pi_range2 {a b : Expr} {ta : TA} {p pos : Pos} (hg : Gl X "range") (hm : X.mg "range" = none) (ha : PA X [a, b] ta) (hs : starEach [a, b] X.env = [(false, eval a X.env), (false, eval b X.env)] := by rfl) (hs2 : starEach [b] X.env = [(false, eval b X.env)] := by rfl) :
    PI X tg (.Call (.Name "range" p) [a, b] [] pos) (iRng2 ta) := by
  intro pins s σ H R I h
  refine Call_ (ld_blt I hg hm boot_range (PyProof.Rows.callWith_type1 (thn (ha pos pins s σ H _ I h) fun us s1 ⟨vs, H1, I1, r1, q1⟩ => ?_) (by rw [hs, hs2]) (by rw [hs2]; rfl)))
  obtain ⟨i, j, e, ⟨q1, q2, q3, q4⟩, q⟩ := q1
  subst e
  cases r1 with
  | cons r rr =>
    cases rr with
    | cons r' rr =>
      cases rr
      obtain ⟨t, rfl⟩ := r
      obtain ⟨t', rfl⟩ := r'
      exact call_range_2 (range_it I1 q1 q2 q3 q4 q)
def tFor (wi : TI) (g : TG) (tb : TS) : TS := fun D σ H => wi σ H fun J H1 => ∃ W : Nat → Nat → St → Hp → Prop, (∃ m, W 0 m σ H1) ∧ ∀ i m σ H, W i m σ H →
  (J.stop i H ∧ D.nx σ H) ∨ (J.go i H ∧ ∃ N : St → Hp → Prop, (∀ σ' H', N σ' H' → ∃ m', m' < m ∧ W (i + 1) m' σ' H') ∧ ∀ x H', J.yld i H x H' → g x σ H' fun σ2 H2 => tb { D with nx := N, ct := N, bk := D.nx } σ2 H2)
def pinsAt (fp : List Addr) (h : Heap) : List (Addr × Obj) := fp.filterMap fun b => (h.get? b).map fun o => (b, o)
theorem mem_pinsAt {fp : List Addr} {h : Heap} {b : Addr} {o : Obj} (hb : b ∈ fp) (e : h.get? b = some o) : (b, o) ∈ pinsAt fp h := List.mem_filterMap.mpr ⟨b, hb, by rw [e]; rfl⟩
theorem of_pinsAt {fp : List Addr} {h : Heap} {p : Addr × Obj} (hp : p ∈ pinsAt fp h) : p.1 ∈ fp ∧ h.get? p.1 = some p.2 := by
  obtain ⟨b, hb, e⟩ := List.mem_filterMap.mp hp
  cases q : h.get? b with
  | none => rw [q] at e; cases e
  | some o =>
    rw [q] at e
    have e' : (b, o) = p := Option.some.inj e
    subst e'
    exact ⟨hb, q⟩
theorem Inv.pinned {pins : List (Addr × Obj)} {σ : St} {H : Hp} {s : Shared} {fp : List Addr} (I : Inv X pins σ H s) (hf : ∀ b ∈ fp, FpOk X pins H b) (ho : ∀ b ∈ fp, ∃ o, s.heap.get? b = some o ∧ ∀ v, o.data ≠ .cell v) : Inv X (pins ++ pinsAt fp s.heap) σ H s :=
  I.pins_of fun p hp => (List.mem_append.mp hp).elim (fun z => I.pin p (List.mem_append_right _ z)) fun z => by
    obtain ⟨hb, e⟩ := of_pinsAt z
    obtain ⟨f0, f1, f2, _⟩ := hf p.1 hb
    obtain ⟨o, e', d⟩ := ho p.1 hb
    rw [e] at e'; cases e'
    exact ⟨e, f0, f1, f2, d⟩
theorem Inv.unpinned {pins pl : List (Addr × Obj)} {σ : St} {H : Hp} {s : Shared} (I : Inv X (pins ++ pl) σ H s) : Inv X pins σ H s := I.pins_of fun p hp => I.pin p (List.mem_append_right _ (List.mem_append_left _ hp))
theorem ps_for {iter : Expr} {body : List Stmt} {wi : TI} {g : TG} {tb : TS} {pos : Pos} (hp : PassesOwn (model X.prog X.w) X.A X.env X.xe) (hc : X.calm = true) (hi : PI X tg iter wi) (hg : PG X tg g) (hb : PSs X body tb)
    (hs : ∀ x, foldedSetIterable iter X.env x = pure x := by intro _; rfl) : PS X (.For tg iter body [] pos) (tFor wi g tb) := by
  intro pins s σ H D I h
  refine wpAny_For (thn (hi pins s σ H _ I h) fun v s1 h1 => thn h1 fun itv s2 h2 => ?_) hs
  obtain ⟨it, fp, tn, J, H2, e, I2, T, st2, f2, W, ⟨m0, w0⟩, turn⟩ := h2
  subst e
  -- what stays true of the iterator's objects through the loop
  have stat : ∀ {H' : Hp}, (∀ b ∈ fp, H' b = none) → ∀ b ∈ fp, FpOk X pins H' b := fun hn b hb => ⟨hn b hb, (f2 b hb).2⟩
  refine codeAny_forLoop_any (fun n s' => ∃ i σ' H', Inv X pins σ' H' s' ∧ tn i s'.heap ∧ (∀ b ∈ fp, H' b = none) ∧ W i n σ' H') ?_ m0 ⟨0, σ, H2, I2, st2, fun b hb => (f2 b hb).1, w0⟩
  rintro n s3 ⟨i, σ3, H3, I3, st3, fr3, w3⟩
  rcases turn i n σ3 H3 w3 with ⟨stop, qn⟩ | ⟨go, N, hN, step⟩
  · refine wpAny_passesOwn hp (thn (T.done X rfl rfl rfl hc i pins s3 σ3 H3 X.xe I3 (stat fr3) st3 stop) fun r s4 ⟨hr, I4⟩ => ?_)
    subst hr
    exact wpAny_execs_nil ⟨σ3, H3, I4, qn⟩
  · refine wpAny_passesOwn hp (thn (T.item X rfl rfl rfl hc i pins s3 σ3 H3 X.xe I3 (stat fr3) st3 go) fun r s4 ⟨u, hr, h4⟩ => ?_)
    subst hr
    refine wpAny_passesOwn hp (thn h4 fun _ s5 ⟨x, H5, I5, r5, y5, st5, fr5⟩ => ?_)
    have I5' := I5.pinned (stat fr5) (T.obj _ _ st5)
    refine wpAny_passesOwn hp (thn (hg _ s5 σ3 H5 x u _ I5' r5 (step x H5 y5)) fun _ s6 ⟨σ6, H6, I6, q6⟩ => ?_)
    refine wpAny_passesOwn hp (thn (hb _ s6 σ6 H6 _ I6 q6) fun f s7 q7 => ?_)
    have again : ∀ {σ7 : St} {H7 : Hp}, Inv X (pins ++ pinsAt fp s5.heap) σ7 H7 s7 → N σ7 H7 → ∃ m, m < n ∧ ∃ i σ' H', Inv X pins σ' H' s7 ∧ tn i s7.heap ∧ (∀ b ∈ fp, H' b = none) ∧ W i m σ' H' := fun {σ7 H7} I7 n7 => by
      obtain ⟨m', hm, w7⟩ := hN σ7 H7 n7
      refine ⟨m', hm, i + 1, σ7, H7, I7.unpinned, T.keep _ _ _ st5 fun b hb o e => (I7.pin (b, o) (List.mem_append_right _ (List.mem_append_right _ (mem_pinsAt hb e)))).1, fun b hb => ?_, w7⟩
      obtain ⟨o, e, d⟩ := T.obj _ _ st5 b hb
      exact (I7.pin (b, o) (List.mem_append_right _ (List.mem_append_right _ (mem_pinsAt hb e)))).2.1
    cases f with
    | next => obtain ⟨σ7, H7, I7, n7⟩ := q7; exact again I7 n7
    | cont => obtain ⟨σ7, H7, I7, n7⟩ := q7; exact again I7 n7
    | brk => obtain ⟨σ7, H7, I7, q7⟩ := q7; exact ⟨σ7, H7, I7.unpinned, q7⟩
    | ret v => obtain ⟨x7, σ7, H7, I7, r7, q7⟩ := q7; exact ⟨x7, σ7, H7, I7.unpinned, r7, q7⟩
end
theorem for_list {K : PySem.W.Frag} {a : Addr} {xs : List V} {g : TG} {tb : TS} {D : Ends} {σ : St} {H : Hp} (Pv : Nat → St → Hp → Prop) (h0 : Pv 0 σ H) (hl : ∀ i σ H, i ≤ xs.length → Pv i σ H → SqL K H a xs)
    (hs : ∀ i x σ H, xs[i]? = some x → Pv i σ H → g x σ H fun σ2 H2 => tb { D with nx := Pv (i + 1), ct := Pv (i + 1), bk := D.nx } σ2 H2) (hd : ∀ σ H, Pv xs.length σ H → D.nx σ H) :
    ∃ W : Nat → Nat → St → Hp → Prop, (∃ m, W 0 m σ H) ∧ ∀ i m σ H, W i m σ H →
      ((Itl K a).stop i H ∧ D.nx σ H) ∨ ((Itl K a).go i H ∧ ∃ N : St → Hp → Prop, (∀ σ' H', N σ' H' → ∃ m', m' < m ∧ W (i + 1) m' σ' H') ∧ ∀ x H', (Itl K a).yld i H x H' → g x σ H' fun σ2 H2 => tb { D with nx := N, ct := N, bk := D.nx } σ2 H2) := by
  refine ⟨fun i m σ H => m = xs.length - i ∧ i ≤ xs.length ∧ Pv i σ H, ⟨xs.length, by simp, Nat.zero_le _, h0⟩, ?_⟩
  rintro i m σ H ⟨rfl, hi, p⟩
  have q := hl i σ H hi p
  by_cases hlt : i < xs.length
  · refine .inr ⟨⟨xs, xs[i], q, by simp [hlt]⟩, Pv (i + 1), fun σ' H' p' => ⟨xs.length - (i + 1), by omega, rfl, hlt, p'⟩, fun x H' y => ?_⟩
    obtain ⟨e, y⟩ := y
    subst e
    exact hs i x σ _ (y xs q) p
  · have e : i = xs.length := by omega
    subst e
    exact .inl ⟨⟨xs, q, Nat.le_refl _⟩, hd σ H p⟩
theorem for_range {lo : Int} {n : Nat} {g : TG} {tb : TS} {D : Ends} {σ : St} {H : Hp} (Pv : Nat → St → Hp → Prop) (h0 : Pv 0 σ H)
    (hs : ∀ i σ H, i < n → Pv i σ H → g (.int (lo + i)) σ H fun σ2 H2 => tb { D with nx := Pv (i + 1), ct := Pv (i + 1), bk := D.nx } σ2 H2) (hd : ∀ σ H, Pv n σ H → D.nx σ H) :
    ∃ W : Nat → Nat → St → Hp → Prop, (∃ m, W 0 m σ H) ∧ ∀ i m σ H, W i m σ H →
      ((Itr lo n).stop i H ∧ D.nx σ H) ∨ ((Itr lo n).go i H ∧ ∃ N : St → Hp → Prop, (∀ σ' H', N σ' H' → ∃ m', m' < m ∧ W (i + 1) m' σ' H') ∧ ∀ x H', (Itr lo n).yld i H x H' → g x σ H' fun σ2 H2 => tb { D with nx := N, ct := N, bk := D.nx } σ2 H2) := by
  refine ⟨fun i m σ H => m = n - i ∧ i ≤ n ∧ Pv i σ H, ⟨n, by simp, Nat.zero_le _, h0⟩, ?_⟩
  rintro i m σ H ⟨rfl, hi, p⟩
  by_cases hlt : i < n
  · refine .inr ⟨hlt, Pv (i + 1), fun σ' H' p' => ⟨n - (i + 1), by omega, rfl, hlt, p'⟩, fun x H' y => ?_⟩
    obtain ⟨e, y⟩ := y
    subst e y
    exact hs i σ _ hlt p
  · have e : i = n := by omega
    subst e
    exact .inl ⟨Nat.le_refl _, hd σ H p⟩
theorem while_by {c : TT} {tb : TS} {D : Ends} {σ : St} {H : Hp} (Pv : St → Hp → Prop) (μ : St → Hp → Nat) (h0 : Pv σ H)
    (hs : ∀ σ H, Pv σ H → c σ H fun b H1 => if b = true then tb { D with nx := fun σ' H' => Pv σ' H' ∧ μ σ' H' < μ σ H, ct := fun σ' H' => Pv σ' H' ∧ μ σ' H' < μ σ H, bk := D.nx } σ H1 else D.nx σ H1)
    (mono : ∀ σ H Q Q', (∀ b H1, Q b H1 → Q' b H1) → c σ H Q → c σ H Q') : tWhile c tb D σ H := by
  refine ⟨fun m σ H => m = μ σ H ∧ Pv σ H, ⟨_, rfl, h0⟩, ?_⟩
  rintro m σ H ⟨rfl, p⟩
  refine mono σ H _ _ (fun b H1 q => ?_) (hs σ H p)
  cases b with
  | true => exact ⟨_, fun σ' H' ⟨p', l⟩ => ⟨_, l, rfl, p'⟩, q⟩
  | false => exact q
end L2
namespace L2
open PySem PySem.Spec PyProof.Rows
abbrev R2 := V → V → Hp → VK → Prop
def OpR (X : Cx) (f : Value → Value → Sem Value) (r : R2) : Prop :=
  ∀ (pins : List (Addr × Obj)) (s : Shared) (σ : St) (H : Hp) (x y : V) (v u : Value) (Q : VK), Inv X pins σ H s → RelV x v → RelV y u → r x y H Q →
    wpAny (model X.prog X.w) X.A (f v u) (EP X pins σ Q) X.xe s
def UnR (X : Cx) (f : Value → Sem Value) (r : V → Hp → VK → Prop) : Prop :=
  ∀ (pins : List (Addr × Obj)) (s : Shared) (σ : St) (H : Hp) (x : V) (v : Value) (Q : VK), Inv X pins σ H s → RelV x v → r x H Q →
    wpAny (model X.prog X.w) X.A (f v) (EP X pins σ Q) X.xe s
def CallR (X : Cx) (f : Value) (r : List V → Hp → VK → Prop) : Prop :=
  ∀ (pins : List (Addr × Obj)) (s : Shared) (σ : St) (H : Hp) (xs : List V) (us : List Value) (Q : VK), Inv X pins σ H s → Vals xs us → r xs H Q →
    wpAny (model X.prog X.w) X.A (call f us) (EP X pins σ Q) X.xe s
def tOp (r : R2) (ta tb : TE) : TE := fun σ H Q => ta σ H fun x H1 => tb σ H1 fun y H2 => r x y H2 Q
def tUn (r : V → Hp → VK → Prop) (ta : TE) : TE := fun σ H Q => ta σ H fun x H1 => r x H1 Q
def rI (C : Int → Int → Prop) (g : Int → Int → V) : R2 := fun x y H Q => ∃ i j, x = .int i ∧ y = .int j ∧ C i j ∧ Q (g i j) H
def rI0 (g : Int → Int → V) : R2 := fun x y H Q => ∃ i j, x = .int i ∧ y = .int j ∧ Q (g i j) H
def rU (g : Int → V) : V → Hp → VK → Prop := fun x H Q => ∃ i, x = .int i ∧ Q (g i) H
section
variable {X : Cx} {a b c : Expr} {ta tb tc : TE} {pos : Pos}
theorem binT (ha : PE X a ta) (hb : PE X b tb) {pins : List (Addr × Obj)} {s : Shared} {σ : St} {H : Hp} {R : V → V → Hp → Prop} (I : Inv X pins σ H s)
    (h : ta σ H fun x H1 => tb σ H1 fun y H2 => R x y H2) {Q : Value → Shared → Prop} {f : Value → Value → Sem Value}
    (hf : ∀ v u s2 x y H2, Inv X pins σ H2 s2 → RelV x v → RelV y u → R x y H2 → wpAny (model X.prog X.w) X.A (f v u) Q X.xe s2) :
    wpAny (model X.prog X.w) X.A (eval a X.env) (fun v s₁ => wpAny (model X.prog X.w) X.A (eval b X.env) (fun u s₂ => wpAny (model X.prog X.w) X.A (f v u) Q X.xe s₂) X.xe s₁) X.xe s := by
  refine thn (ha pins s σ H _ I h) fun v s1 ⟨x, H1, I1, r1, q1⟩ => ?_
  refine thn (hb pins s1 σ H1 _ I1 q1) fun u s2 ⟨y, H2, I2, r2, q2⟩ => ?_
  exact hf v u s2 x y H2 I2 r1 r2 q2
theorem pe_op {op : Operator} {r : R2} (ho : OpR X (binaryOp op) r) (ha : PE X a ta) (hb : PE X b tb) : PE X (.BinOp a op b pos) (tOp r ta tb) := by
  intro pins s σ H Q I h
  exact wpAny_BinOp (binT ha hb I h fun v u s2 x y H2 I2 rx ry q => ho pins s2 σ H2 x y v u Q I2 rx ry q)
theorem pe_un {op : UnaryOp} {r : V → Hp → VK → Prop} (ho : UnR X (unaryOp op) r) (ha : PE X a ta) : PE X (.UnaryOp op a pos) (tUn r ta) := by
  intro pins s σ H Q I h
  exact UnaryOp_ (thn (ha pins s σ H _ I h) fun v s1 ⟨x, H1, I1, r1, q1⟩ => ho pins s1 σ H1 x v Q I1 r1 q1)
theorem opI {f : Value → Value → Sem Value} {C : Int → Int → Prop} {g : Int → Int → Int}
    (rule : ∀ (i j : Int) (t u : Tok) (s : Shared) (Q : Value → Shared → Prop) (E : Value → Shared → Prop), C i j → Q (.int (g i j) s.toks) { s with toks := s.toks + 1 } → wpAny (model X.prog X.w) X.A (f (.int i t) (.int j u)) Q E s) :
    OpR X f (rI C fun i j => .int (g i j)) := by
  intro pins s σ H x y v u Q I rx ry h
  obtain ⟨i, j, rfl, rfl, hc, q⟩ := h
  obtain ⟨t, rfl⟩ := rx
  obtain ⟨t', rfl⟩ := ry
  exact rule i j t t' s _ _ hc ⟨.int (g i j), H, I.tok _, ⟨_, rfl⟩, q⟩
theorem opI0 {f : Value → Value → Sem Value} {g : Int → Int → Int}
    (rule : ∀ (i j : Int) (t u : Tok) (s : Shared) (Q : Value → Shared → Prop) (E : Value → Shared → Prop), Q (.int (g i j) s.toks) { s with toks := s.toks + 1 } → wpAny (model X.prog X.w) X.A (f (.int i t) (.int j u)) Q E s) :
    OpR X f (rI0 fun i j => .int (g i j)) := by
  intro pins s σ H x y v u Q I rx ry h
  obtain ⟨i, j, rfl, rfl, q⟩ := h
  obtain ⟨t, rfl⟩ := rx
  obtain ⟨t', rfl⟩ := ry
  exact rule i j t t' s _ _ ⟨.int (g i j), H, I.tok _, ⟨_, rfl⟩, q⟩
theorem opB0 {f : Value → Value → Sem Value} {g : Int → Int → Bool}
    (rule : ∀ (i j : Int) (t u : Tok) (s : Shared) (Q : Value → Shared → Prop) (E : Value → Shared → Prop), Q (.bool (g i j)) s → wpAny (model X.prog X.w) X.A (f (.int i t) (.int j u)) Q E s) :
    OpR X f (rI0 fun i j => .bl (g i j)) := by
  intro pins s σ H x y v u Q I rx ry h
  obtain ⟨i, j, rfl, rfl, q⟩ := h
  obtain ⟨t, rfl⟩ := rx
  obtain ⟨t', rfl⟩ := ry
  exact rule i j t t' s _ _ ⟨.bl (g i j), H, I, rfl, q⟩
def CPow (i j : Int) : Prop := 0 ≤ j ∧ j ≤ 1000000 ∧ i.natAbs < 2 ^ 64
def CMul (i j : Int) : Prop := (-(2 ^ 64) < i ∧ i < 2 ^ 64) ∨ (-(2 ^ 64) < j ∧ j < 2 ^ 64)
theorem CMul.ok {i j : Int} (h : CMul i j) : IntMulOk i j := by
  rcases h with ⟨h1, h2⟩ | ⟨h1, h2⟩
  · exact .of_left (intBits_le_64 h1 h2)
  · exact .of_right (intBits_le_64 h1 h2)
theorem op_add : OpR X (binaryOp .Add) (rI0 fun i j => .int (i + j)) := opI0 fun _ _ _ _ _ _ _ q => add_int q
theorem op_sub : OpR X (binaryOp .Sub) (rI0 fun i j => .int (i - j)) := opI0 fun _ _ _ _ _ _ _ q => sub_int q
theorem op_mul : OpR X (binaryOp .Mult) (rI CMul fun i j => .int (i * j)) := opI fun _ _ _ _ _ _ _ hc q => mul_int q hc.ok
theorem op_mod : OpR X (binaryOp .Mod) (rI (fun _ j => 0 < j) fun i j => .int (i % j)) := opI fun i j _ _ _ _ _ hc q => by
  have h1 : (0 : Int) < j := hc
  exact mod_int' (by omega) (by rw [Int.fmod_eq_emod_of_nonneg i (by omega)]; exact q)
theorem op_pow : OpR X (binaryOp .Pow) (rI CPow fun i j => .int (i ^ j.toNat)) := opI fun _ _ _ _ _ _ _ hc q => pow_int_small hc.1 hc.2.1 hc.2.2 q
theorem unI {f : Value → Sem Value} {g : Int → Int}
    (rule : ∀ (i : Int) (t : Tok) (s : Shared) (Q : Value → Shared → Prop) (E : Value → Shared → Prop), Q (.int (g i) s.toks) { s with toks := s.toks + 1 } → wpAny (model X.prog X.w) X.A (f (.int i t)) Q E s) :
    UnR X f (rU fun i => .int (g i)) := by
  intro pins s σ H x v Q I rx h
  obtain ⟨i, rfl, q⟩ := h
  obtain ⟨t, rfl⟩ := rx
  exact rule i t s _ _ ⟨.int (g i), H, I.tok _, ⟨_, rfl⟩, q⟩
theorem un_neg : UnR X (unaryOp .USub) (rU fun i => .int (-i)) := unI fun _ _ _ _ _ q => neg_int q
end
def scal : V → V → Bool
  | .non, .non => true | .non, .int _ => true | .int _, .non => true | .non, .bl _ => true | .bl _, .non => true | .non, .str _ => true | .str _, .non => true
  | .int _, .int _ => true | .bl _, .bl _ => true | .str _, .str _ => true | .byt _, .byt _ => true
  | .int _, .str _ => true | .str _, .int _ => true | .bl _, .str _ => true | .str _, .bl _ => true
  | _, _ => false
def rEq : R2 := fun x y H Q => scal x y = true ∧ Q (.bl (decide (x = y))) H
def rNe : R2 := fun x y H Q => scal x y = true ∧ Q (.bl (!decide (x = y))) H
theorem dec_int {i j : Int} : decide (V.int i = V.int j) = (i == j) := by
  rw [Bool.eq_iff_iff]
  simp
theorem dec_bl {i j : Bool} : decide (V.bl i = V.bl j) = (i == j) := by
  rw [Bool.eq_iff_iff]
  simp
theorem dec_str {i j : Str} : decide (V.str i = V.str j) = (i == j) := by
  rw [Bool.eq_iff_iff]
  simp
theorem dec_byt {i j : Array UInt8} : decide (V.byt i = V.byt j) = (i.toList == j.toList) := by
  rw [Bool.eq_iff_iff]
  cases i
  cases j
  simp
section
variable {X : Cx} {a b c : Expr} {ta tb tc : TE} {pos : Pos}
theorem fin_bl {pins : List (Addr × Obj)} {σ : St} {H : Hp} {s : Shared} {Q : VK} {k k' : Bool} (I : Inv X pins σ H s) (q : Q (.bl k) H) (e : k = k') : EP X pins σ Q (.bool k') s := by
  subst e
  exact ⟨.bl k, H, I, rfl, q⟩
theorem op_eq : OpR X (compareOp .Eq) rEq := by
  intro pins s σ H x y v u Q I rx ry h
  obtain ⟨hs, q⟩ := h
  cases x with
  | non =>
    cases rx
    cases y with
    | non => cases ry; exact PySem.EqNone.eq_none_none (fin_bl I q (by simp))
    | bl j => cases ry; exact PySem.EqNone.eq_none_bool (fin_bl I q (by simp))
    | int j => obtain ⟨t', rfl⟩ := ry; exact PySem.EqNone.eq_none_int (fin_bl I q (by simp))
    | str j => obtain ⟨t', rfl⟩ := ry; exact PySem.EqNone.eq_none_str (fin_bl I q (by simp))
    | _ => exact absurd (show false = true from hs) Bool.false_ne_true
  | bl i =>
    cases rx
    cases y with
    | non => cases ry; exact PySem.EqNone.eq_bool_none (fin_bl I q (by simp))
    | bl j => cases ry; exact eq_bool (fin_bl I q dec_bl)
    | str j => obtain ⟨t', rfl⟩ := ry; exact PySem.EqMixed.eq_bool_str (fin_bl I q (by simp))
    | _ => exact absurd (show false = true from hs) Bool.false_ne_true
  | int i =>
    obtain ⟨t, rfl⟩ := rx
    cases y with
    | non => cases ry; exact PySem.EqNone.eq_int_none (fin_bl I q (by simp))
    | int j => obtain ⟨t', rfl⟩ := ry; exact eq_int (fin_bl I q dec_int)
    | str j => obtain ⟨t', rfl⟩ := ry; exact PySem.EqMixed.eq_int_str (fin_bl I q (by simp))
    | _ => exact absurd (show false = true from hs) Bool.false_ne_true
  | str i =>
    obtain ⟨t, rfl⟩ := rx
    cases y with
    | non => cases ry; exact PySem.EqNone.eq_str_none (fin_bl I q (by simp))
    | bl j => cases ry; exact PySem.EqMixed.eq_str_bool (fin_bl I q (by simp))
    | int j => obtain ⟨t', rfl⟩ := ry; exact PySem.EqMixed.eq_str_int (fin_bl I q (by simp))
    | str j => obtain ⟨t', rfl⟩ := ry; exact eq_str (fin_bl I q dec_str)
    | _ => exact absurd (show false = true from hs) Bool.false_ne_true
  | byt i =>
    obtain ⟨t, rfl⟩ := rx
    cases y with
    | byt j => obtain ⟨t', rfl⟩ := ry; exact PySem.W.eq_bytes (fin_bl I q dec_byt)
    | _ => exact absurd (show false = true from hs) Bool.false_ne_true
  | _ => cases y <;> exact absurd (show false = true from hs) Bool.false_ne_true
theorem op_ne : OpR X (compareOp .NotEq) rNe := by
  intro pins s σ H x y v u Q I rx ry h
  obtain ⟨hs, q⟩ := h
  cases x with
  | non =>
    cases rx
    cases y with
    | non => cases ry; exact PySem.EqNone.ne_none_none (fin_bl I q (by simp))
    | bl j => cases ry; exact PySem.EqNone.ne_none_bool (fin_bl I q (by simp))
    | int j => obtain ⟨t', rfl⟩ := ry; exact PySem.EqNone.ne_none_int (fin_bl I q (by simp))
    | str j => obtain ⟨t', rfl⟩ := ry; exact PySem.EqNone.ne_none_str (fin_bl I q (by simp))
    | _ => exact absurd (show false = true from hs) Bool.false_ne_true
  | bl i =>
    cases rx
    cases y with
    | non => cases ry; exact PySem.EqNone.ne_bool_none (fin_bl I q (by simp))
    | bl j => cases ry; exact ne_bool (fin_bl I q (congrArg not dec_bl))
    | str j => obtain ⟨t', rfl⟩ := ry; exact PySem.EqMixed.ne_bool_str (fin_bl I q (by simp))
    | _ => exact absurd (show false = true from hs) Bool.false_ne_true
  | int i =>
    obtain ⟨t, rfl⟩ := rx
    cases y with
    | non => cases ry; exact PySem.EqNone.ne_int_none (fin_bl I q (by simp))
    | int j => obtain ⟨t', rfl⟩ := ry; exact ne_int (fin_bl I q (congrArg not dec_int))
    | str j => obtain ⟨t', rfl⟩ := ry; exact PySem.EqMixed.ne_int_str (fin_bl I q (by simp))
    | _ => exact absurd (show false = true from hs) Bool.false_ne_true
  | str i =>
    obtain ⟨t, rfl⟩ := rx
    cases y with
    | non => cases ry; exact PySem.EqNone.ne_str_none (fin_bl I q (by simp))
    | bl j => cases ry; exact PySem.EqMixed.ne_str_bool (fin_bl I q (by simp))
    | int j => obtain ⟨t', rfl⟩ := ry; exact PySem.EqMixed.ne_str_int (fin_bl I q (by simp))
    | str j => obtain ⟨t', rfl⟩ := ry; exact ne_str (fin_bl I q (congrArg not dec_str))
    | _ => exact absurd (show false = true from hs) Bool.false_ne_true
  | byt i =>
    obtain ⟨t, rfl⟩ := rx
    cases y with
    | byt j => obtain ⟨t', rfl⟩ := ry; exact PySem.W.ne_bytes (fin_bl I q (congrArg not dec_byt))
    | _ => exact absurd (show false = true from hs) Bool.false_ne_true
  | _ => cases y <;> exact absurd (show false = true from hs) Bool.false_ne_true
theorem op_lt : OpR X (compareOp .Lt) (rI0 fun i j => .bl (decide (i < j))) := opB0 fun _ _ _ _ _ _ _ q => lt_int q
theorem op_le : OpR X (compareOp .LtE) (rI0 fun i j => .bl (decide (i ≤ j))) := opB0 fun _ _ _ _ _ _ _ q => le_int q
theorem op_gt : OpR X (compareOp .Gt) (rI0 fun i j => .bl (decide (j < i))) := opB0 fun _ _ _ _ _ _ _ q => gt_int q
theorem op_ge : OpR X (compareOp .GtE) (rI0 fun i j => .bl (decide (j ≤ i))) := opB0 fun _ _ _ _ _ _ _ q => ge_int q
theorem op_notN : OpR X (compareOp .IsNot) (fun x y H Q => y = .non ∧ Q (.bl (!decide (x = .non))) H) := by
  intro pins s σ H x y v u Q I rx ry h
  obtain ⟨rfl, q⟩ := h
  cases ry
  refine isnot_none_gen (fin_bl I q ?_)
  cases x <;> first
    | (cases rx; rfl)
    | (obtain ⟨t, rfl⟩ := rx; rfl)
theorem OpR.or {f : Value → Value → Sem Value} {r r' : R2} (h : OpR X f r) (h' : OpR X f r') : OpR X f (fun x y H Q => r x y H Q ∨ r' x y H Q) := by
  intro pins s σ H x y v u Q I rx ry q
  rcases q with q | q
  · exact h pins s σ H x y v u Q I rx ry q
  · exact h' pins s σ H x y v u Q I rx ry q
theorem nomark (b : Expr) {op : CmpOp} (h : op ≠ .In := by decide) (h2 : op ≠ .NotIn := by decide) : behindInMarks op b = false := by
  have e1 : (op == CmpOp.In) = false := by cases op <;> first | rfl | exact absurd rfl h
  have e2 : (op == CmpOp.NotIn) = false := by cases op <;> first | rfl | exact absurd rfl h2
  cases b <;> simp [behindInMarks, e1, e2]
theorem pe_cmpR {op : CmpOp} {r : R2} (ho : OpR X (compareOp op) r) (ha : PE X a ta) (hb : PE X b tb) (hm : behindInMarks op b = false) : PE X (.Compare a [op] [b] pos) (tOp r ta tb) := by
  intro pins s σ H Q I h
  exact wpAny_Compare1 (binT ha hb I h fun v u s2 x y H2 I2 rx ry q => ho pins s2 σ H2 x y v u Q I2 rx ry q) hm
def tTest (t : TE) : TT := fun σ H Q => t σ H fun x H' => ∃ k, x = .bl k ∧ Q k H'
theorem pt_cmpR {op : CmpOp} {r : R2} (ho : OpR X (compareOp op) r) (ha : PE X a ta) (hb : PE X b tb) (hm : behindInMarks op b = false) : PT X (.Compare a [op] [b] pos) (tTest (tOp r ta tb)) := by
  intro pins s σ H Q I h
  refine wpAny_isTrue_Compare1 (thn (ha pins s σ H _ I h) fun v s1 ⟨x, H1, I1, r1, q1⟩ => thn (hb pins s1 σ H1 _ I1 q1) fun u s2 ⟨y, H2, I2, r2, q2⟩ =>
    thn (ho pins s2 σ H2 x y v u _ I2 r1 r2 q2) fun c s3 ⟨z, H3, I3, r3, k, e, q3⟩ => ?_) hm
  subst e
  cases r3
  exact wpAny_truthy_bool ⟨H3, I3, q3⟩
def tChain (r r' : R2) (ta tb tc : TE) : TE := fun σ H Q => ta σ H fun x H1 => tb σ H1 fun y H2 => r x y H2 fun z H3 => ∃ k, z = .bl k ∧
  (if k = true then tc σ H3 fun w' H4 => r' y w' H4 Q else Q (.bl false) H3)
theorem pt_chain {op op' : CmpOp} {r r' : R2} (ho : OpR X (compareOp op) r) (ho' : OpR X (compareOp op') r') (ha : PE X a ta) (hb : PE X b tb) (hc : PE X c tc)
    (hm : lastMarks [op, op'] [b, c] = false := by with_unfolding_all rfl) : PT X (.Compare a [op, op'] [b, c] pos) (tTest (tChain r r' ta tb tc)) := by
  intro pins s σ H Q I h
  refine isTrue_chain (thn (ha pins s σ H _ I h) fun v s1 ⟨x, H1, I1, r1, q1⟩ => test_link (thn (hb pins s1 σ H1 _ I1 q1) fun u s2 ⟨y, H2, I2, r2, q2⟩ =>
    thn (ho pins s2 σ H2 x y v u _ I2 r1 r2 q2) fun d s3 ⟨z, H3, I3, r3, k, e, q3⟩ => ?_)) hm
  subst e
  cases r3
  refine wpAny_truthy_bool ?_
  cases k with
  | false =>
    obtain ⟨k', e', q'⟩ := q3
    cases e'
    exact ite_ff ⟨H3, I3, q'⟩
  | true =>
    refine ite_tt (test_last (thn (hc pins s3 σ H3 _ I3 q3) fun w' s4 ⟨z', H4, I4, r4, q4⟩ => thn (ho' pins s4 σ H4 y z' u w' _ I4 r2 r4 q4) fun d' s5 ⟨z2, H5, I5, r5, k2, e2, q5⟩ => ?_))
    subst e2
    cases r5
    exact wpAny_truthy_bool ⟨H5, I5, q5⟩
theorem line63 : (sizeLine : Nat) < 2 ^ 63 := by rw [sizeLine_eq]; decide
theorem vals1 {x : V} {us : List Value} (r : Vals [x] us) : ∃ u, us = [u] ∧ RelV x u := by
  cases r with
  | cons r1 r2 => cases r2; exact ⟨_, rfl, r1⟩
theorem vals2 {x y : V} {us : List Value} (r : Vals [x, y] us) : ∃ u w', us = [u, w'] ∧ RelV x u ∧ RelV y w' := by
  cases r with
  | cons r1 r2 =>
    cases r2 with
    | cons r3 r4 => cases r4; exact ⟨_, _, rfl, r1, r3⟩
theorem call_abs : CallR X (.builtin "abs") (fun xs H Q => ∃ i, xs = [.int i] ∧ Q (.int (if i < 0 then -i else i)) H) := by
  intro pins s σ H xs us Q I r h
  obtain ⟨i, rfl, q⟩ := h
  obtain ⟨u, rfl, t, rfl⟩ := vals1 r
  exact call_abs_int fun u tk => ⟨.int (if i < 0 then -i else i), H, I.tok _, ⟨_, rfl⟩, q⟩
theorem call_min2 (hc : X.calm = true) : CallR X (.builtin "min") (fun xs H Q => ∃ i j, xs = [.int i, .int j] ∧ Q (.int (if j < i then j else i)) H) := by
  intro pins s σ H xs us Q I r h
  obtain ⟨i, j, rfl, q⟩ := h
  obtain ⟨u, w', rfl, ⟨t, rfl⟩, ⟨t', rfl⟩⟩ := vals2 r
  refine min_two_ints (I.ok.hd hc) fun h' tk k => ⟨_, H, I.kept k, ?_, q⟩
  by_cases hj : j < i
  · rw [if_pos hj, if_pos hj]; exact ⟨_, rfl⟩
  · rw [if_neg hj, if_neg hj]; exact ⟨_, rfl⟩
end
end L2
namespace L2
open PySem PySem.Spec PyProof.Rows
structure ObjM (h : Heap) (x dx C : Addr) (mA : Str → Option Value) : Prop where
  obj : h.get? x = some (PySem.W.instObj C dx)
  ns : h.Ns1 dx mA
  ne : dx ≠ x
theorem lookIn_ns {h : Heap} {dx : Addr} {mA : Str → Option Value} (n : h.Ns1 dx mA) : ∃ od, h.get? dx = some od ∧ ∀ name, PySem.W.lookIn name od = some (mA name) := by
  obtain ⟨o, es, ep, ho, hd, hk, _, hm⟩ := n
  refine ⟨o, ho, fun name => ?_⟩
  have e := hm name
  unfold nsFind findBy at e
  rw [← Array.find?_toList] at e
  unfold PySem.W.lookIn
  rw [hd]
  dsimp only
  split
  · rename_i y q
    rw [q] at e
    exact congrArg some e
  · rename_i q
    rw [q] at e
    have a : es.toList.any (·.refKey) = false := by
      rw [List.any_eq_false]
      intro y hy
      obtain ⟨z, t, hkey⟩ := hk y (Array.mem_toList_iff.mp hy)
      simp [DictEntry.refKey, hkey]
    have a' : ¬ es.toList.any (·.refKey) = true := by rw [a]; exact Bool.false_ne_true
    rw [if_neg a']
    exact congrArg some e
theorem ObjM.look {h : Heap} {x dx C : Addr} {mA : Str → Option Value} (I : ObjM h x dx C mA) : ∃ od, PySem.W.InstAt h x (PySem.W.instObj C dx) C (some od) ∧ ∀ name, PySem.W.lookIn name od = some (mA name) :=
  let ⟨od, ho, hl⟩ := lookIn_ns I.ns
  ⟨od, ⟨I.obj, rfl, rfl, ho⟩, hl⟩
section
variable {prog : Program} {w : World} {A : Around} {E : Value → Shared → Prop} {s : Shared} {K : PySem.W.Frag} {x dx C f : Addr} {mA : Str → Option Value} {name : Str} {v : Value}
theorem set_map {ns : List Str} {Q : Unit → Shared → Prop} (X : K.In s.heap) (I : ObjM s.heap x dx C mA)
    (hs : PySem.W.findIn K (.ref C) "__setattr__" = some (some (.builtin "object.__setattr__"))) (hp : PySem.W.plainOver K C = true) (ht : PySem.W.takerIn K C name = some none) (hh : PySem.W.hasDictIn K C = true)
    (hw : PySem.Within mA ns) (hsz : ns.length ≤ sizeLine)
    (h : ∀ h', ObjM h' x dx C (fun y => if y = name then some v else mA y) → Heap.SameBut dx s.heap h' → Q () { s with heap := h', toks := s.toks + 2 }) :
    wpAny (model prog w) A (setAttr (.ref x) name v) Q E s := by
  obtain ⟨od, J, hl⟩ := I.look
  refine PySem.W.set_plain X J hs (PySem.W.osa_open (s := { s with toks := s.toks + 1 }) (r := none) X J hp ht fun b => ?_)
  obtain ⟨cd, hc, hd'⟩ := PySem.W.any_some hh
  have hx : s.heap.get? x = some ⟨.ref C, some dx, .plain, #[]⟩ := I.obj
  refine wpAny_bind (wpAny_pure (wpAny_bind (wpAny_bind (wpAny_loadPart hx (wpAny_bind (PySem.W.Looks.here (s := { s with toks := s.toks + 1 }) (PySem.W.looks_clsIn X hc) ?_))))))
  rw [hd']
  refine wpAny_pure (a := some dx) (wpAny_bind (wpAny_pure (wpAny_bind ?_)))
  refine wpAny_nsSet1 (s := { s with toks := s.toks + 1 }) I.ns fun h' hn2 hs2 => ?_
  obtain ⟨oD, esD, epD, hoD, hdD, hcD⟩ := hn2.count (PySem.Within.cons name v hw)
  refine wpAny_bind (wpAny_lookBehind hoD (by rw [hdD]; exact pastItsLine_dict (Nat.le_trans hcD (by rw [List.length_cons]; omega))) ?_)
  exact wpAny_pure (h _ ⟨(hs2.2 _ (Ne.symm I.ne)).trans I.obj, hn2, I.ne⟩ hs2)
end
section
variable {P : Program} {w : World} {H H' : Hp} {h h' : Heap} {a C dx : Addr} {fs fs' : List (Str × V)}
theorem ins_get (hok : HOk P w H h) (e : H a = some (.ins C dx fs)) : ∃ mA, ObjM h a dx C mA ∧ (∀ f, RelO (fs.lookup f) (mA f)) ∧ PySem.Within mA (fs.map (·.1)) ∧ fs.length ≤ 1000 ∧ H dx = some (.own a) := by
  obtain ⟨d, z, ne, ob, mA, n, r, q⟩ := (show ObjOk P w H h a (.ins C dx fs) from hok a _ e)
  exact ⟨mA, ⟨ob, n, ne⟩, r, q, z, d⟩
end
structure Cls (K : PySem.W.Frag) (C : Addr) : Prop where
  pg : PySem.W.plainGet K C Str.empty = true
  hd : PySem.W.hasDictIn K C = true
  po : PySem.W.plainOver K C = true
  sa : PySem.W.findIn K (.ref C) "__setattr__" = some (some (.builtin "object.__setattr__"))
theorem Cls.get {K : PySem.W.Frag} {C : Addr} (c : Cls K C) (f : Str) : PySem.W.plainGet K C f = true := c.pg
section
variable {X : Cx} {pins : List (Addr × Obj)} {σ : St} {H : Hp} {s : Shared} {a C dx : Addr} {fs : List (Str × V)} {f : Str} {v : V} {A : Around} {E : Value → Shared → Prop}
theorem Inv.made (I : Inv X pins σ H s) : Inv X pins σ (upd (upd H s.heap.objs.size (.own (s.heap.objs.size + 1))) (s.heap.objs.size + 1) (.ins C s.heap.objs.size []))
    { s with heap := (s.heap.push PySem.W.emptyDict).push (PySem.W.instObj C s.heap.objs.size) } := by
  have e1 : (s.heap.push PySem.W.emptyDict).get? s.heap.objs.size = some PySem.W.emptyDict := Heap.get?_push_size s.heap rfl
  have e2 : ((s.heap.push PySem.W.emptyDict).push (PySem.W.instObj C s.heap.objs.size)).get? (s.heap.objs.size + 1) = some (PySem.W.instObj C s.heap.objs.size) := by
    have := Heap.get?_push_size (s.heap.push PySem.W.emptyDict) (o := PySem.W.instObj C s.heap.objs.size) rfl
    rwa [Heap.size_push] at this
  have e3 : (s.heap.push PySem.W.emptyDict).Ns s.heap.objs.size (fun _ => none) := ⟨PySem.W.emptyDict, #[], _, e1, rfl, (fun e he => absurd he (by simp)), fun _ => rfl⟩
  have I1 := I.laid (a := s.heap.objs.size) (o := .own (s.heap.objs.size + 1)) (h' := s.heap.push PySem.W.emptyDict) (t' := s.toks) (fun b u q => Heap.get?_push_of_some _ q) (Nat.le_refl _) ⟨_, e1⟩
  refine I1.laid (a := s.heap.objs.size + 1) (o := .ins C s.heap.objs.size []) (t' := s.toks) (fun b u q => Heap.get?_push_of_some _ q) (Nat.le_of_eq (Heap.size_push _ _)) ?_
  have ne : s.heap.objs.size ≠ s.heap.objs.size + 1 := Nat.ne_of_lt (Nat.lt_succ_self _)
  refine ⟨by rw [upd_ne ne, upd_same], Nat.zero_le _, ne, e2, fun _ => none, (Heap.Ns1.of_empty e3).at fun o q => Heap.get?_push_of_some _ q, fun _ => True.intro, fun y hy => absurd rfl hy⟩
end
section
variable {X : Cx} {o e value : Expr} {f : Str} {pos pos' tpos : Pos} {ta tv : TE}
end
section
variable {X : Cx} {pins : List (Addr × Obj)} {σ : St} {H : Hp} {s : Shared} {A : Around} {E : Value → Shared → Prop} {Q : Value → Shared → Prop} {c : Value} {b : Bool}
inductive TyOf (K : PySem.W.Frag) (H : Hp) : V → Value → Prop where
  | non : TyOf K H .non (.type "NoneType")
  | bl (x : Bool) : TyOf K H (.bl x) (.type "bool")
  | int (i : Int) : TyOf K H (.int i) (.type "int")
  | str (x : Str) : TyOf K H (.str x) (.type "str")
  | flt (x : UInt64) : TyOf K H (.flt x) (.type "float")
  | lst {a : Addr} {xs : List V} (e : H a = some (.lst xs)) : TyOf K H (.ref a) (.type "list")
  | frz {a : Addr} {o : Obj} {xs : List V} (e : H a = some (.frz o (.lst xs))) : TyOf K H (.ref a) (.type "list")
  | tup {a : Addr} {xs : List V} (e : H a = some (.tup xs)) : TyOf K H (.ref a) (.type "tuple")
  | dK {a : Addr} {kvs : List (Key × V)} (e : H a = some (.dK kvs)) : TyOf K H (.ref a) (.type "dict")
  | dT {a : Addr} {kvs : List (List Key × V)} (e : H a = some (.dT kvs)) : TyOf K H (.ref a) (.type "dict")
  | ins {a C dx : Addr} {fs : List (Str × V)} (e : H a = some (.ins C dx fs)) (cl : Cls K C) (ha : PySem.W.findIn K (.ref C) "__class__" = some (some (.builtin "object.__class__")))
      (hn : PySem.W.specialIn K (.builtin "object.__class__") "__get__" = some (some (.builtin "getset_descriptor.__get__"))) (htk : PySem.W.takesIn K (.builtin "object.__class__") = some true)
      (hm : PySem.W.mroIn K C (.type "object") = some true) : TyOf K H (.ref a) (.ref C)
theorem isinst_ok {x : V} {u t : Value} (I : Inv X pins σ H s) (rx : RelV x u) (ty : TyOf X.K H x t) (e : PySem.W.kitOne X.K t c = some b) (h : ∀ tk, Q (.bool b) { s with toks := tk }) :
    wpAny (model X.prog X.w) A (call (.builtin "isinstance") [u, c]) Q E s := by
  cases ty with
  | non => cases (show u = Value.none from rx); exact PySem.W.kia_one PySem.W.kitx_none I.kIn True.intro e (fun z => nomatch z) h
  | bl y => cases (show u = Value.bool y from rx); exact PySem.W.kia_one PySem.W.kitx_bool I.kIn True.intro e (fun z => nomatch z) h
  | int i => obtain ⟨t, q⟩ := (show ∃ t, u = Value.int i t from rx); cases q; exact PySem.W.kia_one PySem.W.kitx_int I.kIn True.intro e (fun z => nomatch z) h
  | str y => obtain ⟨t, q⟩ := (show ∃ t, u = Value.str y t from rx); cases q; exact PySem.W.kia_one PySem.W.kitx_str I.kIn True.intro e (fun z => nomatch z) h
  | flt y => obtain ⟨t, q⟩ := (show ∃ t, u = Value.float y t from rx); cases q; exact PySem.W.kia_one PySem.W.kitx_float I.kIn True.intro e (fun z => nomatch z) h
  | @lst a xs ea =>
    cases (show u = Value.ref a from rx)
    obtain ⟨_, _, n, _, h1⟩ := (show ObjOk X.prog X.w H s.heap a (.lst xs) from I.hok a _ ea)
    exact PySem.W.kia_one PySem.W.kitx_list I.kIn ⟨_, h1, rfl⟩ e (fun z => nomatch z) h
  | @frz a ob xs ea =>
    cases (show u = Value.ref a from rx)
    obtain ⟨_, _, _, n, _, h1⟩ := (show ObjOk X.prog X.w H s.heap a (.frz ob (.lst xs)) from I.hok a _ ea)
    exact PySem.W.kia_one PySem.W.kitx_list I.kIn ⟨_, h1, rfl⟩ e (fun z => nomatch z) h
  | @tup a xs ea =>
    cases (show u = Value.ref a from rx)
    obtain ⟨_, _, _, p⟩ := (show ObjOk X.prog X.w H s.heap a (.tup xs) from I.hok a _ ea)
    obtain ⟨o, h1, h2, _⟩ := p
    exact PySem.W.kia_one PySem.W.kitx_tuple I.kIn ⟨o, h1, h2⟩ e (fun z => nomatch z) h
  | @dK a kvs ea =>
    cases (show u = Value.ref a from rx)
    obtain ⟨_, _, vs, _, p⟩ := (show ObjOk X.prog X.w H s.heap a (.dK kvs) from I.hok a _ ea)
    obtain ⟨o, es, ep, h1, h2, _⟩ := p
    exact PySem.W.kia_one PySem.W.kitx_dict I.kIn ⟨o, h1, h2.1⟩ e (fun z => nomatch z) h
  | @dT a kvs ea =>
    cases (show u = Value.ref a from rx)
    obtain ⟨_, _, xs, _, o, es, ep, h1, h2, _⟩ := (show ObjOk X.prog X.w H s.heap a (.dT kvs) from I.hok a _ ea)
    exact PySem.W.kia_one PySem.W.kitx_dict I.kIn ⟨o, h1, h2.1⟩ e (fun z => nomatch z) h
  | @ins a C dx fs ea cl ha hn htk hm =>
    cases (show u = Value.ref a from rx)
    obtain ⟨mA, O, _⟩ := ins_get I.hok ea
    obtain ⟨od, J, _⟩ := O.look
    exact PySem.W.kia_one (PySem.W.kitx_own (cl.get _) cl.hd ha hn htk hm) I.kIn J e (fun z => nomatch z) h
end
end L2
namespace L2
open PySem PySem.Spec PyProof.Rows
structure Room (k : Nat) (A : Around) : Prop where
  hd : A.handled = none
  dp : A.depth + 3 * k + 5 < recursionLimit
  un : A.units + 16 * k + 200 < cLine
theorem Room.mono {j k : Nat} {A : Around} (r : Room k A) (h : j ≤ k) : Room j A := ⟨r.hd, by have := r.dp; omega, by have := r.un; omega⟩
theorem Room.deeper {k : Nat} {A : Around} (r : Room (k + 1) A) (env : Env) : Room k (A.deeper env) :=
  ⟨r.hd, by have := r.dp; show A.depth + 1 + 3 * k + 5 < _; omega, by have := r.un; show A.units + 3 + 16 * k + 200 < _; omega⟩
theorem Room.in1 {k : Nat} {A : Around} (r : Room (k + 1) A) : Room k A.in1 :=
  ⟨r.hd, by have := r.dp; show A.depth + 3 * k + 5 < _; omega, by have := r.un; show A.units + 1 + 16 * k + 200 < _; omega⟩
theorem Room.depth {k : Nat} {A : Around} (r : Room k A) : A.depth < recursionLimit := by have := r.dp; omega
theorem Room.units {k : Nat} {A : Around} (r : Room k A) : A.units + 64 < cLine := by have := r.un; omega
def tNil : TA := fun _ H Q => Q [] H
def tCons (ta : TE) (tr : TA) : TA := fun σ H Q => ta σ H fun x H1 => tr σ H1 fun xs H2 => Q (x :: xs) H2
section
variable {X : Cx} {e : Expr} {es : List Expr} {te : TE} {t : TA} {pos : Pos}
theorem pa_nil : PA X [] tNil := fun _ _ _ _ H Q I h => Calls.spliced_nil ⟨[], H, I, .nil, h⟩
theorem pa_cons (ha : PE X e te) (hr : PA X es t) (hs : starEach (e :: es) X.env = (false, eval e X.env) :: starEach es X.env := by rfl) : PA X (e :: es) (tCons te t) := by
  intro pos pins s σ H Q I h
  rw [hs]
  show wpAny _ _ (spliced ((false, eval e X.env) :: backTo pos (starEach es X.env))) _ _ s
  refine Calls.spliced_cons (thn (ha pins s σ H _ I h) fun u s1 ⟨x, H1, I1, r1, q1⟩ => ?_)
  exact thn (hr pos pins s1 σ H1 _ I1 q1) fun us s2 ⟨xs, H2, I2, r2, q2⟩ => ⟨x :: xs, H2, I2, .cons r1 r2, q2⟩
def tTup (t : TA) : TE := fun σ H Q => t σ H fun xs H1 => xs.length ≤ sizeLine ∧ ∀ p, H1 p = none → Q (.ref p) (upd H1 p (.tup xs))
def tLst (t : TA) : TE := fun σ H Q => t σ H fun xs H1 => xs.length ≤ sizeLine ∧ ∀ p, H1 p = none → Q (.ref p) (upd H1 p (.lst xs))
theorem pe_tup {x1} (h : PA X es t) : PE X (.Tuple es x1 pos) (tTup t) := by
  intro pins s σ H Q I hq
  refine wpAny_Tuple_spliced (thn (h pos pins s σ H _ I hq) fun us s1 ⟨xs, H1, I1, r, z, q⟩ => ⟨by rw [← r.length]; exact z, ?_⟩)
  have hf : H1 s1.heap.objs.size = none := I1.hok.fresh (Nat.le_refl _)
  refine ⟨.ref s1.heap.objs.size, upd H1 s1.heap.objs.size (.tup xs), I1.laid (t' := s1.toks) (fun b u e => Heap.get?_push_of_some _ e) (Nat.le_refl _) ?_, rfl, q _ hf⟩
  exact ⟨z, us, r, ⟨_, Heap.get?_push_size _ rfl, rfl, _, rfl⟩⟩
theorem pe_lst (h : PA X es t) : PE X (.List es pos) (tLst t) := by
  intro pins s σ H Q I hq
  refine wpAny_List_spliced (thn (h pos pins s σ H _ I hq) fun us s1 ⟨xs, H1, I1, r, z, q⟩ => ⟨by rw [← r.length]; exact z, ?_⟩)
  have hf : H1 s1.heap.objs.size = none := I1.hok.fresh (Nat.le_refl _)
  refine ⟨.ref s1.heap.objs.size, upd H1 s1.heap.objs.size (.lst xs), I1.laid (t' := s1.toks) (fun b u e => Heap.get?_push_of_some _ e) (Nat.le_refl _) ?_, rfl, q _ hf⟩
  exact ⟨z, us, 0, r, Heap.get?_push_size _ rfl⟩
end
abbrev Sp := List V → Hp → VK → XK → Prop
abbrev CXT := List Env → Hp → Shared → XK → Value → Shared → Prop
structure Env0 (P : Program) (w : World) (K : PySem.W.Frag) (mg : Str → Option Value) (base : Heap) (A : Around) (outer : List Env) (s : Shared) (H : Hp) : Prop where
  frames : A.frames = some outer
  mod : Mod K mg base
  bs : ∀ b o, base.get? b = some o → s.heap.get? b = some o ∧ H b = none
  bsz : base.objs.size ≤ s.heap.objs.size
  funs : s.heap.FunFrames base outer
  frf : ∀ b ∈ frs outer, H b = none
  hok : HOk P w H s.heap
  bare : AllBare s.gens
def CE (outer : List Env) (P : Program) (w : World) (H : Hp) (s : Shared) (Q : VK) (u : Value) (s' : Shared) : Prop :=
  ∃ v H', s'.os = s.os ∧ AllBare s'.gens ∧ Un (frs outer) [] H H' s.heap s'.heap ∧ HOk P w H' s'.heap ∧ RelV v u ∧ Q v H'
def CR (CX : CXT) (outer : List Env) (P : Program) (w : World) (H : Hp) (s : Shared) (Q : VK) (E : XK) (r : Result) (s' : Shared) : Prop :=
  match r with
  | .ok (.ret u) => CE outer P w H s Q u s'
  | .ok _ => False
  | .error e => CX outer H s E e s'
structure FnOk (P : Program) (w : World) (K : PySem.W.Frag) (mg : Str → Option Value) (base : Heap) (CX : CXT) (k : Nat) (f : Addr) (fd : FuncData) (ps : List Str) (sp : Sp) : Prop where
  len : ∀ vs H Q E, sp vs H Q E → vs.length = ps.length
  run : ∀ (A : Around) (outer : List Env) (s : Shared) (H : Hp) (args : Args) (us : List Value) (vs : List V) (Q : VK) (E : XK), Room k A → Env0 P w K mg base A outer s H → BindsTo s fd args (ps.zip us) → Vals vs us → sp vs H Q E →
    codeAny (model P w) A (.call (.ref f) args) (CR CX outer P w H s Q E) s
theorem FnOk.mono {P : Program} {w : World} {K : PySem.W.Frag} {mg : Str → Option Value} {base : Heap} {CX : CXT} {j k : Nat} {f : Addr} {fd : FuncData} {ps : List Str} {sp : Sp} (F : FnOk P w K mg base CX j f fd ps sp) (h : j ≤ k) :
    FnOk P w K mg base CX k f fd ps sp := ⟨F.len, fun A outer s H args us vs Q E hr => F.run A outer s H args us vs Q E (hr.mono h)⟩
theorem Env0.in1 {P : Program} {w : World} {K : PySem.W.Frag} {mg : Str → Option Value} {base : Heap} {A : Around} {outer : List Env} {s : Shared} {H : Hp} (e : Env0 P w K mg base A outer s H) :
    Env0 P w K mg base A.in1 outer s H := ⟨e.frames, e.mod, e.bs, e.bsz, e.funs, e.frf, e.hok, e.bare⟩
section
variable {X : Cx} {pins : List (Addr × Obj)} {σ : St} {H : Hp} {s s' : Shared}
theorem Inv.env0 (I : Inv X pins σ H s) : Env0 X.prog X.w X.K X.mg X.base X.A X.stack s H :=
  ⟨I.ok.frames, I.ok.mod, I.bs, Nat.le_trans I.ok.bsz I.sz, I.stack, I.stkFree, I.hok, I.bare⟩
theorem Inv.after {Q : VK} {u : Value} (I : Inv X pins σ H s) (h : CE X.stack X.prog X.w H s Q u s') : EP X pins σ Q u s' := by
  obtain ⟨v, H', os, bare, un, hok, r, q⟩ := h
  obtain ⟨hh, g, d, t, os'⟩ := s'
  obtain rfl : os' = s.os := os
  exact ⟨v, H', I.call (h' := hh) (g' := g) (d' := d) (t' := t) (ch := []) un hok bare (fun b z => absurd z (by simp)), r, q⟩
end
def tCall (sp : Sp) (dvs : List V) (E : XK) (t : TA) : TE := fun σ H Q => t σ H fun vs H1 => sp (vs ++ dvs) H1 Q E
def Binds (K : PySem.W.Frag) (fd : FuncData) (ps : List Str) (ds : List Value) : Prop :=
  ∀ (s : Shared) (us : List Value), K.In s.heap → (us ++ ds).length = ps.length → BindsTo s fd ⟨us, []⟩ (ps.zip (us ++ ds))
theorem Binds.all {K : PySem.W.Frag} {fd : FuncData} {ps : List Str} (h : ∀ us : List Value, us.length = ps.length → bindArgs fd ⟨us, []⟩ = pure (ps.zip us)) : Binds K fd ps [] := fun s us _ hl => by
  rw [List.append_nil] at hl ⊢
  exact .of_eq (h us hl)
def Passes (CX : CXT) (X : Cx) (E : XK) : Prop := ∀ (pins : List (Addr × Obj)) (σ : St) (H : Hp) (s : Shared) (e : Value) (s' : Shared), Inv X pins σ H s → CX X.stack H s E e s' → X.xe e s'
section
variable {X : Cx} {CX : CXT} {k : Nat} {f C : Addr} {fd : FuncData} {ps : List Str} {sp : Sp} {dvs : List V} {ds : List Value} {E : XK} {x m : Str} {p pos apos : Pos} {e o : Expr} {es : List Expr} {ta : TE} {t : TA}
theorem run_fn {pins : List (Addr × Obj)} {σ : St} {H : Hp} {s : Shared} {Q : VK} {us : List Value} {vs : List V} (F : FnOk X.prog X.w X.K X.mg X.base CX k f fd ps sp) (hr : Room k X.A) (hb : Binds X.K fd ps ds) (hd : Vals dvs ds) (hx : Passes CX X E)
    (I : Inv X pins σ H s) (r : Vals vs us) (h : sp (vs ++ dvs) H Q E) : wpAny (model X.prog X.w) X.A (call (.ref f) us) (EP X pins σ Q) X.xe s := by
  have r2 : Vals (vs ++ dvs) (us ++ ds) := r.append hd
  have hl : (us ++ ds).length = ps.length := by rw [← r2.length]; exact F.len _ _ _ _ h
  refine wpAny_call (codeAny_mono (F.run X.A X.stack s H ⟨us, []⟩ (us ++ ds) (vs ++ dvs) Q E hr I.env0 (hb s us I.kIn hl) r2 h) fun r s' hq => ?_)
  cases r with
  | error e => exact hx pins σ H s e s' I hq
  | ok fl =>
    cases fl with
    | ret u => exact I.after hq
    | next => exact False.elim hq
    | brk => exact False.elim hq
    | cont => exact False.elim hq
theorem pe_call (F : FnOk X.prog X.w X.K X.mg X.base CX k f fd ps sp) (hr : Room k X.A) (hg : Gl X x) (hm : X.mg x = some (.ref f)) (hk : PySem.W.keepIn X.K (.ref f) = true) (hb : Binds X.K fd ps ds) (hd : Vals dvs ds) (hx : Passes CX X E)
    (ha : PA X (e :: es) t) (hdb : (x == ("__debug__" : Str)) = false := by decide) (he : starEach (e :: es) X.env = (false, eval e X.env) :: starEach es X.env := by rfl) (hpl : (backTo pos (starEach es X.env)).any (·.1) = false := by rfl) :
    PE X (.Call (.Name x p) (e :: es) [] pos) (tCall sp dvs E t) := by
  intro pins s σ H Q I h
  refine wpAny_Call_Name_kw (ld_glob I hg hm ?_ hdb)
  refine PySem.W.callWith_K (h₀ := X.base) I.ok.mod.kin hk (thn (ha pos pins s σ H _ I h) fun us s1 ⟨vs, H1, I1, r, q⟩ => ⟨I1.kIn, ?_⟩) he hpl
  exact run_fn F hr hb hd hx I1 r q
end
section
variable {X : Cx} {CX : CXT} {k : Nat} {f C : Addr} {fd : FuncData} {ps ks : List Str} {sp : Sp} {E : XK} {x m : Str} {p pos apos kpos : Pos} {e o : Expr} {es : List Expr} {kws : List Keyword} {te ta : TE} {t tk : TA} {nm : Option Str}
variable {g : List Value → List Value → List Value} {gV : List V → List V → List V}
end
structure FnScope (N P : List Str) (sc : Scope) : Prop where
  kind : sc.kind = .function
  co : sc.isCoroutine = false
  gen : sc.isGenerator = false
  nd : N.Nodup
  pre : N.take P.length = P
  par : ∀ x ∈ P, sc.names.lookup x = some .local ∨ sc.names.lookup x = some .cell
  nofree : ∀ y ∈ sc.names, y.2 ≠ .free
theorem bindL_out {kindOf : Str → Option NameKind} {x : Str} : ∀ {binds : List (Str × Value)} {m : Str → Option Value}, (∀ v, (x, v) ∉ binds) → bindL kindOf binds m x = m x
  | [], _, _ => rfl
  | (n, v) :: r, m, h => by
    unfold bindL
    rw [bindL_out fun w hw => h w (List.mem_cons_of_mem _ hw)]
    split
    · have : x ≠ n := by rintro rfl; exact h v List.mem_cons_self
      simp [this]
    · rfl
theorem bindC_out {kindOf : Str → Option NameKind} {x : Str} : ∀ {binds : List (Str × Value)} {m : Str → Option Value}, (∀ v, (x, v) ∉ binds) → bindC kindOf binds m x = m x
  | [], _, _ => rfl
  | (n, v) :: r, m, h => by
    unfold bindC
    rw [bindC_out fun w hw => h w (List.mem_cons_of_mem _ hw)]
    split
    · rfl
    · have : x ≠ n := by rintro rfl; exact h v List.mem_cons_self
      simp [this]
theorem bindL_get {kindOf : Str → Option NameKind} {x : Str} {v : Value} : ∀ {P : List Str} {vs : List Value} {i : Nat} {m : Str → Option Value}, P.Nodup → P[i]? = some x → vs[i]? = some v → kindOf x = some .local →
    bindL kindOf (P.zip vs) m x = some v
  | [], _, _, _, _, h, _, _ => by simp at h
  | _ :: _, [], _, _, _, _, h, _ => by simp at h
  | p :: P, w :: vs, 0, m, nd, h1, h2, hk => by
    simp at h1 h2; subst h1; subst h2
    show bindL kindOf ((p, w) :: P.zip vs) m p = _
    unfold bindL
    rw [bindL_out fun v hv => (List.nodup_cons.mp nd).1 (List.of_mem_zip hv).1, if_pos hk]
    simp
  | p :: P, w :: vs, i + 1, m, nd, h1, h2, hk => by
    show bindL kindOf ((p, w) :: P.zip vs) m x = _
    unfold bindL
    exact bindL_get (i := i) (List.nodup_cons.mp nd).2 (by simpa using h1) (by simpa using h2) hk
theorem bindC_get {kindOf : Str → Option NameKind} {x : Str} {v : Value} : ∀ {P : List Str} {vs : List Value} {i : Nat} {m : Str → Option Value}, P.Nodup → P[i]? = some x → vs[i]? = some v → kindOf x ≠ some .local →
    bindC kindOf (P.zip vs) m x = some v
  | [], _, _, _, _, h, _, _ => by simp at h
  | _ :: _, [], _, _, _, _, h, _ => by simp at h
  | p :: P, w :: vs, 0, m, nd, h1, h2, hk => by
    simp at h1 h2; subst h1; subst h2
    show bindC kindOf ((p, w) :: P.zip vs) m p = _
    unfold bindC
    rw [bindC_out fun v hv => (List.nodup_cons.mp nd).1 (List.of_mem_zip hv).1, if_neg hk]
    simp
  | p :: P, w :: vs, i + 1, m, nd, h1, h2, hk => by
    show bindC kindOf ((p, w) :: P.zip vs) m x = _
    unfold bindC
    exact bindC_get (i := i) (List.nodup_cons.mp nd).2 (by simpa using h1) (by simpa using h2) hk
def start (N : List Str) (vs : List V) : St := vs.map some ++ List.replicate (N.length - vs.length) none
def cxOf (CX : CXT) (P : Program) (w : World) (K : PySem.W.Frag) (mg : Str → Option Value) (base : Heap) (N : List Str) (qual : Str) (scope : Scope) (f : Addr) (cd : Value) (A : Around) (outer : List Env) (s : Shared) (H : Hp) (E : XK) : Cx where
  prog := P
  w := w
  K := K
  mg := mg
  base := base
  A := A.deeper (envOfC qual scope s.heap.objs.size f cd)
  N := N
  s₀ := s
  H₀ := H
  env := envOfC qual scope s.heap.objs.size f cd
  outer := outer
  stack := envOfC qual scope s.heap.objs.size f cd :: outer
  ex := []
  calm := true
  fn := fun _ => true
  pn := []
  xe := fun e s' => wpAny (model P w) (A.deeper (envOfC qual scope s.heap.objs.size f cd)) (leaving (envOfC qual scope s.heap.objs.size f cd) e) (fun _ s'' => CX outer H s E e s'') (fun e' s'' => CX outer H s E e' s'') s'
theorem cell_has {sc : Scope} {n : Nat} {x : Str} (h : sc.names.lookup x = some .cell) : ∃ c, (cellsFrom n sc.names []).lookup x = some c := by
  have q := PySem.W.cellsFrom_some sc.names n [] (.inl h)
  exact Option.isSome_iff_exists.mp q
theorem inv_start {CX : CXT} {P : Program} {w : World} {K : PySem.W.Frag} {mg : Str → Option Value} {base : Heap} {N ps : List Str} {qual : Str} {scope : Scope} {f : Addr} {cd : Value} {A : Around} {outer : List Env} {s s1 : Shared} {H : Hp} {E : XK} {us : List Value} {vs : List V}
    (S : FnScope N ps scope) (hd : A.handled = none) (e0 : Env0 P w K mg base A outer s H) (hl : vs.length = ps.length) (r : Vals vs us)
    (x : InCallC s s.heap.objs.size (bindL (envOfC qual scope s.heap.objs.size f cd).kindOf (ps.zip us) fun _ => none) (cellsFrom (s.heap.objs.size + 1) scope.names []) (bindC (envOfC qual scope s.heap.objs.size f cd).kindOf (ps.zip us) fun _ => none) s1) :
    Inv (cxOf CX P w K mg base N qual scope f cd A outer s H E) [] (start N vs) H s1 := by
  have hpl : ps.length ≤ N.length := by have := congrArg List.length S.pre; rw [List.length_take] at this; omega
  obtain ⟨h1, tk, rfl, hk⟩ := x.done
  have noA : ∀ b : Addr, b ∉ (cxOf CX P w K mg base N qual scope f cd A outer s H E).ex := fun b z => absurd (show b ∈ ([] : List Addr) from z) (by simp)
  refine ⟨⟨e0.mod, S.kind, rfl, rfl, Nat.le_refl _, fun y z c h1 h2 => ?_, fun y hy => ?_, fun y c _ h => ?_, fun _ => hd, Around.frames_deeper e0.frames, .inr ⟨rfl, rfl⟩, fun b z => absurd z (noA b), e0.bs, e0.bsz, fun b _ _ => noA b, fun b z => absurd z (noA b), e0.funs, e0.frf⟩,
    rfl, e0.bare, Un.kept hk, ⟨_, x.toInCall.ns, fun i y v h1 h2 h3 => ?_⟩, fun y c h => ⟨_, x.cell y c h⟩, e0.hok.fresh (Nat.le_refl _), fun y c h => ?_, fun p hp => absurd (show p ∈ ([] : List (Addr × Obj)) from hp) (by simp), e0.hok.kept hk, ?_⟩
  · exact name_of_addr x.apart (PySem.mem_of_lookup h1) (PySem.mem_of_lookup h2)
  · have hy : scope.names.lookup y = some .cell ∨ scope.names.lookup y = some .free := hy
    rcases hy with hy | hy
    · exact cell_has hy
    · exact absurd rfl (S.nofree _ (PySem.mem_of_lookup hy))
  · exact Nat.le_of_lt (x.above y c (PySem.mem_of_lookup h))
  · have hi : i < vs.length := by
      unfold start at h2
      by_cases hi : i < vs.length
      · exact hi
      · rw [List.getElem?_append_right (by simpa using hi)] at h2
        rw [List.getElem?_replicate] at h2
        split at h2 <;> cases h2
    have ha : vs[i]? = some v := by
      unfold start at h2
      rw [List.getElem?_append_left (by simpa using hi), List.getElem?_map] at h2
      cases e : vs[i]? with
      | none => rw [e] at h2; cases h2
      | some a => rw [e] at h2; cases h2; rfl
    obtain ⟨u, hu, rv⟩ := r.get ha
    have hp : ps[i]? = some y := by
      rw [← S.pre, List.getElem?_take_of_lt (by omega)]; exact h1
    have ndP : ps.Nodup := by rw [← S.pre]; exact S.nd.sublist (List.take_sublist _ _)
    refine ⟨u, rv, ?_⟩
    rcases S.par y (List.mem_of_getElem? hp) with k | k
    · exact .inl ⟨k, bindL_get ndP hp hu k⟩
    · obtain ⟨c, e⟩ := cell_has (n := s.heap.objs.size + 1) k
      refine .inr ⟨.inl k, c, e, ?_⟩
      have q := x.cell y c e
      rw [bindC_get ndP hp hu (by show scope.names.lookup y ≠ _; rw [k]; decide)] at q
      exact q
  · exact e0.hok.fresh (Nat.le_of_lt (x.above y c (PySem.mem_of_lookup h)))
  · unfold start
    show _ = N.length
    rw [List.length_append, List.length_map, List.length_replicate]
    omega
theorem fn_of {CX : CXT} {P : Program} {w : World} {K : PySem.W.Frag} {mg : Str → Option Value} {base : Heap} {k : Nat} {f : Addr} {name qual : Str} {params : Arguments} {body : List Stmt} {scope : Scope} {dV kV doc pm cdv ct oc : Value} {an od : Option Addr}
    {osl : Array (Option Value)} {N ps : List Str} {sp : Sp} (lk : K.lookup f = some ⟨oc, od, .func (PySem.W.fnOf name qual params body scope dV kV doc pm an cdv ct), osl⟩) (hcd : PySem.W.codeIn K cdv qual = true) (S : FnScope N ps scope)
    (len : ∀ vs H Q E, sp vs H Q E → vs.length = ps.length)
    (hbody : ∀ (A : Around) (outer : List Env) (s : Shared) (H : Hp) (vs : List V) (Q : VK) (E : XK), Room k (A.deeper (envOfC qual scope s.heap.objs.size f cdv)) → sp vs H Q E →
      ∃ t, PSs (cxOf CX P w K mg base N qual scope f cdv A outer s H E) body t ∧ t { nx := fun _ H' => Q .non H', rt := Q } (start N vs) H) :
    FnOk P w K mg base CX (k + 1) f (PySem.W.fnOf name qual params body scope dV kV doc pm an cdv ct) ps sp := by
  refine ⟨len, fun A outer s H args us vs Q E hr e0 hb r hsp => ?_⟩
  have hl := len _ _ _ _ hsp
  have KX : K.In s.heap := e0.mod.kin.keeps fun b o e => (e0.bs b o e).1
  have lim : s.heap.NoLimit := e0.mod.nolimit.keeps fun b o e => (e0.bs b o e).1
  have hkind : ∀ y ∈ ps.zip us, scope.names.lookup y.1 = some .local ∨ (scope.names.lookup y.1 = some .cell ∧ ((cellsFrom (s.heap.objs.size + 1) scope.names []).lookup y.1).isSome = true) := fun ⟨n, v⟩ hy => by
    rcases S.par n (List.of_mem_zip hy).1 with q | q
    · exact .inl q
    · exact .inr ⟨q, PySem.W.cellsFrom_some _ _ _ (.inl q)⟩
  refine codeAny_call_function hr.depth (KX _ _ lk) rfl S.co S.gen rfl (PySem.W.codeRec_of KX hcd) (hb _ _ _ _ ?_)
  refine wpAny_newFunctionEnv_cells S.kind hkind fun env he s1 x => ?_
  subst he
  refine ⟨lim.keeps x.toInCall.keep, codeAny_func ?_⟩
  obtain ⟨t, ht, hq⟩ := hbody A outer s H vs Q E (hr.deeper _) hsp
  have I : Inv (cxOf CX P w K mg base N qual scope f cdv A outer s H E) [] (start N vs) H s1 := inv_start S hr.hd e0 hl r x
  refine wpAny_mono (ht [] s1 (start N vs) H _ I hq) (fun fl s' hs => ?_) fun e s' hs => hs
  have fin : ∀ {σ' : St} {H' : Hp} {v : V} {u : Value}, Inv (cxOf CX P w K mg base N qual scope f cdv A outer s H E) [] σ' H' s' → RelV v u → Q v H' → CE outer P w H s Q u s' :=
    fun {σ' H' v u} J rv q => ⟨v, H', J.os, J.bare, J.base, J.hok, rv, q⟩
  cases fl with
  | ret u =>
    obtain ⟨v, σ', H', J, rv, q⟩ := hs
    exact fin J rv q
  | next =>
    obtain ⟨σ', H', J, q⟩ := hs
    exact fin (v := V.non) (u := Value.none) J rfl q
  | brk =>
    obtain ⟨_, _, _, q⟩ := hs
    exact False.elim q
  | cont =>
    obtain ⟨_, _, _, q⟩ := hs
    exact False.elim q
end L2
namespace L2
open PySem PySem.Spec PyProof.Rows
section
variable {X : Cx} {x : Str} {p pos : Pos} {e : Expr} {es : List Expr} {t : TA} {id T : String} {r : List V → Hp → VK → Prop}
def tCB (r : List V → Hp → VK → Prop) (t : TA) : TE := fun σ H Q => t σ H fun vs H1 => r vs H1 Q
theorem pe_callB (hc : CallR X (.builtin id) r) (hg : Gl X x) (hm : X.mg x = none) (hv : bootBuiltins x = some (.builtin id)) (ha : PA X (e :: es) t) (hn : x ≠ "__name__" := by decide) (hdb : (x == ("__debug__" : Str)) = false := by decide)
    (he : starEach (e :: es) X.env = (false, eval e X.env) :: starEach es X.env := by rfl) (hpl : (backTo pos (starEach es X.env)).any (·.1) = false := by rfl) : PE X (.Call (.Name x p) (e :: es) [] pos) (tCB r t) := by
  intro pins s σ H Q I h
  refine wpAny_Call_Name_kw (ld_blt I hg hm hv ?_ hn hdb)
  exact PyProof.Rows.callWith_builtin1 (thn (ha pos pins s σ H _ I h) fun us s1 ⟨vs, H1, I1, r1, q1⟩ => hc pins s1 σ H1 vs us Q I1 r1 q1) he hpl
theorem pe_callTy (hc : CallR X (.type T) r) (hg : Gl X x) (hm : X.mg x = none) (hv : bootBuiltins x = some (.type T)) (ha : PA X (e :: es) t) (hn : x ≠ "__name__" := by decide) (hdb : (x == ("__debug__" : Str)) = false := by decide)
    (he : starEach (e :: es) X.env = (false, eval e X.env) :: starEach es X.env := by rfl) (hpl : (backTo pos (starEach es X.env)).any (·.1) = false := by rfl) : PE X (.Call (.Name x p) (e :: es) [] pos) (tCB r t) := by
  intro pins s σ H Q I h
  refine wpAny_Call_Name_kw (ld_blt I hg hm hv ?_ hn hdb)
  exact PyProof.Rows.callWith_type1 (thn (ha pos pins s σ H _ I h) fun us s1 ⟨vs, H1, I1, r1, q1⟩ => hc pins s1 σ H1 vs us Q I1 r1 q1) he hpl
end
end L2
namespace HT
open PySem PyProof.Rows
section
open PySem.SeqAt
open PySem.AutoSeq1 (wpAny_loadPart')
open PySem.MeetsSeq PySem.MeetsSeq2 PySem.MeetsSeq3
end
section
variable {prog : Program} {w : World} {A : Around} {E : Value → Shared → Prop} {s : Shared}
def sIx (n d : Nat) : Option Int → Nat
  | none => d
  | some v => if v < 0 then (v + (n : Int)).toNat else min v.toNat n
theorem sIx_none (n d : Nat) : sIx n d none = d := rfl
theorem sIx_nat (n d k : Nat) : sIx n d (some (k : Int)) = min k n := by
  show (if (k : Int) < 0 then ((k : Int) + (n : Int)).toNat else min (k : Int).toNat n) = min k n
  rw [if_neg (by omega), Int.toNat_natCast]
end
end HT
namespace L2
open PySem PySem.Spec PyProof.Rows
abbrev TO := St → Hp → (Option Int → Hp → Prop) → Prop
def PO (X : Cx) (e : Option Expr) (t : TO) : Prop :=
  ∀ (pins : List (Addr × Obj)) (s : Shared) (σ : St) (H : Hp) (Q : Option Int → Hp → Prop), Inv X pins σ H s → t σ H Q →
    wpAny (model X.prog X.w) X.A (evalPart e X.env) (fun u s' => ∃ o H', Inv X pins σ H' s' ∧ IsPart u o ∧ Q o H') X.xe s
def tNoPart : TO := fun _ H Q => Q none H
def tPart (t : TE) : TO := fun σ H Q => t σ H fun x H1 => ∃ i, x = .int i ∧ Q (some i) H1
section
variable {X : Cx} {e : Expr} {te : TE} {lo hi : Option Expr} {tl th : TO} {pos p2 : Pos}
theorem po_none : PO X none tNoPart := by
  intro pins s σ H Q I h
  rw [evalPart_none]
  exact wpAny_pure ⟨none, H, I, .none, h⟩
theorem po_some (h : PE X e te) : PO X (some e) (tPart te) := by
  intro pins s σ H Q I hw
  rw [evalPart_some]
  refine thn (h pins s σ H _ I hw) fun u s1 ⟨x, H1, I1, r1, q1⟩ => ?_
  obtain ⟨i, rfl, q⟩ := q1
  obtain ⟨t, rfl⟩ := r1
  exact ⟨some i, H1, I1, .int i t, q⟩
def SlR (X : Cx) (r : V → Option Int → Option Int → Hp → VK → Prop) : Prop :=
  ∀ (pins : List (Addr × Obj)) (s : Shared) (σ : St) (H : Hp) (x : V) (v vl vu : Value) (lo hi : Option Int) (sl : Addr) (Q : VK), Inv X pins σ H s → RelV x v → s.heap.IsSliceOf sl vl vu .none → IsPart vl lo → IsPart vu hi → r x lo hi H Q →
    ∃ T id, typeLookup (.type T) "__getitem__" = pure (some (.builtin id)) ∧ s.TypeIs v T ∧ wpAny (model X.prog X.w) X.A (getItem v (.ref sl)) (EP X pins σ Q) X.xe s
theorem SlR.or {r r' : V → Option Int → Option Int → Hp → VK → Prop} (h : SlR X r) (h' : SlR X r') : SlR X (fun x lo hi H Q => r x lo hi H Q ∨ r' x lo hi H Q) := by
  intro pins s σ H x v vl vu lo hi sl Q I rx hs pl pu q
  rcases q with q | q
  · exact h pins s σ H x v vl vu lo hi sl Q I rx hs pl pu q
  · exact h' pins s σ H x v vl vu lo hi sl Q I rx hs pl pu q
def tSl (r : V → Option Int → Option Int → Hp → VK → Prop) (te : TE) (tl th : TO) : TE := fun σ H Q => te σ H fun x H1 => tl σ H1 fun l H2 => th σ H2 fun u H3 => r x l u H3 Q
theorem pe_slice {r : V → Option Int → Option Int → Hp → VK → Prop} (hr : SlR X r) (he : PE X e te) (hl : PO X lo tl) (hu : PO X hi th) : PE X (.Subscript e (.Slice lo hi none p2) pos) (tSl r te tl th) := by
  intro pins s σ H Q I h
  refine Subscript_ (thn (he pins s σ H _ I h) fun v s1 ⟨x, H1, I1, r1, q1⟩ => ?_)
  refine wpAny_Slice (thn (hl pins s1 σ H1 _ I1 q1) fun vl s2 ⟨l, H2, I2, pl, q2⟩ => thn (hu pins s2 σ H2 _ I2 q2) fun vu s3 ⟨u, H3, I3, pu, q3⟩ => ?_)
  rw [evalPart_none]
  refine wpAny_pure ?_
  have I4 : Inv X pins σ H3 { s3 with heap := s3.heap.push { cls := .type "slice", data := .fields #[vl, vu, .none] } } := I3.kept (t' := s3.toks) fun b ob q => Heap.get?_push_of_some _ q
  obtain ⟨T, id, hT, ht, hg⟩ := hr pins { s3 with heap := s3.heap.push { cls := .type "slice", data := .fields #[vl, vu, .none] } } σ H3 x v vl vu l u s3.heap.objs.size Q I4 r1 (Heap.IsSliceOf.new ..) pl pu q3
  show wpAny (model X.prog X.w) X.A (subscriptTail e (.Slice lo hi none p2) v (.ref s3.heap.objs.size)) (EP X pins σ Q) X.xe { s3 with heap := s3.heap.push { cls := .type "slice", data := .fields #[vl, vu, .none] } }
  exact tail_any (ops := [.ref s3.heap.objs.size, v]) ht hT hg (by with_unfolding_all rfl)
def cutV (xs : List V) (lo hi : Option Int) : List V := (xs.drop (HT.sIx xs.length 0 lo)).take (HT.sIx xs.length xs.length hi - HT.sIx xs.length 0 lo)
theorem cutV_length (xs : List V) (lo hi : Option Int) : (cutV xs lo hi).length ≤ xs.length := by
  unfold cutV
  rw [List.length_take, List.length_drop]
  omega
end
end L2
namespace L2
open PySem PySem.Spec PyProof.Rows
def ixN (n : Nat) (i : Int) : Option Nat := if 0 ≤ i then (if i < n then some i.toNat else none) else if -(n : Int) ≤ i then some (i + n).toNat else none
def atI {α : Type} (xs : List α) (i : Int) : Option α := (ixN xs.length i).bind fun j => xs[j]?
theorem ixN_seq {n : Nat} {i : Int} {j : Nat} (h : ixN n i = some j) : seqIndex? i n = some j ∧ j < n ∧ -(n : Int) ≤ i ∧ i < n := by
  unfold ixN at h
  by_cases h0 : 0 ≤ i
  · rw [if_pos h0] at h
    by_cases h1 : i < n
    · rw [if_pos h1] at h
      have e : i.toNat = j := Option.some.inj h
      exact ⟨by rw [seqIndex_of h0 h1, e], by omega, by omega, h1⟩
    · rw [if_neg h1] at h; cases h
  · rw [if_neg h0] at h
    by_cases h1 : -(n : Int) ≤ i
    · rw [if_pos h1] at h
      have e : (i + n).toNat = j := Option.some.inj h
      exact ⟨by rw [seqIndex_neg (by omega) h1, e], by omega, h1, by omega⟩
    · rw [if_neg h1] at h; cases h
theorem atI_get {α : Type} {xs : List α} {i : Int} {v : α} (h : atI xs i = some v) : ∃ j, seqIndex? i xs.length = some j ∧ xs[j]? = some v ∧ j < xs.length ∧ -(xs.length : Int) ≤ i ∧ i < xs.length := by
  unfold atI at h
  cases e : ixN xs.length i with
  | none => rw [e] at h; cases h
  | some j =>
    rw [e] at h
    obtain ⟨h1, h2, h3, h4⟩ := ixN_seq e
    exact ⟨j, h1, h, h2, h3, h4⟩
theorem atI_nat {α : Type} {xs : List α} {j : Nat} {v : α} (h : xs[j]? = some v) : atI xs (j : Int) = some v := by
  have hj : j < xs.length := (List.getElem?_eq_some_iff.mp h).1
  have e : ixN xs.length (j : Int) = some j := by
    unfold ixN
    rw [if_pos (by omega), if_pos (by omega)]; simp
  unfold atI; rw [e]; exact h
theorem atI_last {α : Type} (xs : List α) (v : α) : atI (xs ++ [v]) (-1) = some v := by
  have hl : (xs ++ [v]).length = xs.length + 1 := by simp
  have e : ixN (xs ++ [v]).length (-1) = some xs.length := by
    unfold ixN
    rw [hl, if_neg (by decide), if_pos (by omega)]
    congr 1
    omega
  unfold atI
  rw [e]
  show (xs ++ [v])[xs.length]? = some v
  simp
def PlainIx (b : Expr) : Prop := ∀ o i, subscripted b false o i = operate [o, i] (getItem o i)
def IxR (X : Cx) (r : R2) : Prop :=
  ∀ (value slice : Expr) (pins : List (Addr × Obj)) (s : Shared) (σ : St) (H : Hp) (x y : V) (v u : Value) (Q : VK), Inv X pins σ H s → RelV x v → RelV y u → r x y H Q →
    subscripted slice false v u = operate [v, u] (getItem v u) → wpAny (model X.prog X.w) X.A (subscriptTail value slice v u) (EP X pins σ Q) X.xe s
def MtR (X : Cx) (id : String) (r : V → List V → Hp → VK → Prop) : Prop :=
  ∀ (pins : List (Addr × Obj)) (s : Shared) (σ : St) (H : Hp) (x : V) (xs : List V) (v : Value) (us : List Value) (Q : VK), Inv X pins σ H s → RelV x v → Vals xs us → r x xs H Q →
    wpAny (model X.prog X.w) X.A (call (.builtin id) (v :: us)) (EP X pins σ Q) X.xe s
section
variable {X : Cx} {a b : Expr} {ta tb : TE} {pos : Pos}
theorem IxR.or {r r' : R2} (h : IxR X r) (h' : IxR X r') : IxR X (fun x y H Q => r x y H Q ∨ r' x y H Q) := by
  intro value slice pins s σ H x y v u Q I rx ry q hs
  rcases q with q | q
  · exact h value slice pins s σ H x y v u Q I rx ry q hs
  · exact h' value slice pins s σ H x y v u Q I rx ry q hs
theorem MtR.or {id : String} {r r' : V → List V → Hp → VK → Prop} (h : MtR X id r) (h' : MtR X id r') : MtR X id (fun x xs H Q => r x xs H Q ∨ r' x xs H Q) := by
  intro pins s σ H x xs v us Q I rx rs q
  rcases q with q | q
  · exact h pins s σ H x xs v us Q I rx rs q
  · exact h' pins s σ H x xs v us Q I rx rs q
theorem pe_ix {r : R2} (hr : IxR X r) (ha : PE X a ta) (hb : PE X b tb) (hs : PlainIx b) : PE X (.Subscript a b pos) (tOp r ta tb) := by
  intro pins s σ H Q I h
  exact Subscript_ (binT ha hb I h fun v u s2 x y H2 I2 rx ry q => hr a b pins s2 σ H2 x y v u Q I2 rx ry q (hs _ _))
def rIxL (K : PySem.W.Frag) : R2 := fun x y H Q => ∃ p xs i v, x = .ref p ∧ y = .int i ∧ SqL K H p xs ∧ atI xs i = some v ∧ Q v H
def rIxT (K : PySem.W.Frag) : R2 := fun x y H Q => ∃ p xs i v, x = .ref p ∧ y = .int i ∧ SqT K H p xs ∧ atI xs i = some v ∧ Q v H
theorem ix_list : IxR X (rIxL X.K) := by
  intro value slice pins s σ H x y v u Q I rx ry h hs
  obtain ⟨p, xs, i, z, rfl, rfl, hq, he, q⟩ := h
  cases rx
  obtain ⟨t, rfl⟩ := ry
  obtain ⟨its, r, pl, hz⟩ := I.list hq
  obtain ⟨j, h1, h2, h3, h4, h5⟩ := atI_get he
  obtain ⟨w, ew, rw'⟩ := r.get h2
  have hl := r.length
  have hn := line63
  have fin : EP X pins σ Q w s := ⟨z, H, I, rw', q⟩
  by_cases h0 : 0 ≤ i
  · have hj : i.toNat = j := by
      rw [seqIndex_of h0 h5] at h1
      exact Option.some.inj h1
    exact item_listR pl.isList h0 (by omega) (by rw [hj]; simpa using ew) fin hs
  · have hj : (i + (its.toArray.size : Int)).toNat = j := by
      rw [seqIndex_neg (by omega) h4] at h1
      rw [List.size_toArray, ← hl]
      exact Option.some.inj h1
    exact subscriptTail_builtinR (x := w) pl.isList.typeIs slot_list_getitem.lookup
      (wpAny_getItem_list_neg (Q := fun r s' => r = w ∧ EP X pins σ Q r s') pl.isList (by omega) (by rw [List.size_toArray] <;> omega) (by omega) (by rw [hj]; simpa using ew) ⟨rfl, fin⟩) hs
theorem ix_tup : IxR X (rIxT X.K) := by
  intro value slice pins s σ H x y v u Q I rx ry h hs
  obtain ⟨p, xs, i, z, rfl, rfl, hq, he, q⟩ := h
  cases rx
  obtain ⟨t, rfl⟩ := ry
  obtain ⟨its, r, pl, hz⟩ := I.tuple hq
  obtain ⟨j, h1, h2, h3, h4, h5⟩ := atI_get he
  obtain ⟨w, ew, rw'⟩ := r.get h2
  have hl := r.length
  have hn := line63
  have fin : EP X pins σ Q w s := ⟨z, H, I, rw', q⟩
  exact subscriptTail_builtinR (x := w) pl.typeIs slot_tuple_getitem.lookup
    (getItem_tuple (j := j) (Q := fun r s' => r = w ∧ EP X pins σ Q r s') pl (by omega) (by omega) (by rw [List.size_toArray, ← hl]; exact h1) (by simpa using ew) ⟨rfl, fin⟩) hs
theorem mapSeq_set (its : List Value) (n j : Nat) (u : Value) : Obj.mapSeq (·.setIfInBounds j u) { cls := .type "list", data := .seq its.toArray n } = { cls := .type "list", data := .seq (its.set j u).toArray n } := by
  simp [Obj.mapSeq]
theorem Inv.lst {pins : List (Addr × Obj)} {σ : St} {H : Hp} {s : Shared} {p : Addr} {xs : List V} (I : Inv X pins σ H s) (h : H p = some (.lst xs)) :
    ∃ (its : List Value) (n : Nat), Vals xs its ∧ s.heap.get? p = some { cls := .type "list", data := .seq its.toArray n } ∧ xs.length ≤ sizeLine := by
  obtain ⟨z, its, n, r, e⟩ := I.hok p _ h
  exact ⟨its, n, r, e, z⟩
theorem Inv.lstUpd {pins : List (Addr × Obj)} {σ : St} {H : Hp} {s : Shared} {p : Addr} {xs ys : List V} {its its' : List Value} {n n' : Nat} {f : Obj → Obj} (I : Inv X pins σ H s) (h : H p = some (.lst xs))
    (ho : s.heap.get? p = some { cls := .type "list", data := .seq its.toArray n }) (hf : f { cls := .type "list", data := .seq its.toArray n } = { cls := .type "list", data := .seq its'.toArray n' }) (r : Vals ys its') (hz : ys.length ≤ sizeLine) (t : Nat) :
    Inv X pins σ (upd H p (.lst ys)) { s with heap := s.heap.update p f, toks := t } := by
  have e : (s.heap.update p f).get? p = some { cls := .type "list", data := .seq its'.toArray n' } := by
    rw [Heap.get?_update_self f ho (by rw [hf] <;> rfl), hf]
  refine I.write (x := p) (e := p) (by rw [h]; trivial) (.inl rfl) (fun b u hb q => (Heap.get?_update_other _ _ (Ne.symm hb)).trans q) ⟨_, e⟩ ?_
  exact ⟨hz, its', n', r, e⟩
def rSetL : V → V → V → Hp → (Hp → Prop) → Prop := fun o i v H Q => ∃ p xs k j, o = .ref p ∧ i = .int k ∧ H p = some (.lst xs) ∧ ixN xs.length k = some j ∧ Q (upd H p (.lst (xs.set j v)))
theorem set_list : PSet X rSetL := by
  intro pins s σ H o i v ov iv u Q I ro ri rv h
  obtain ⟨p, xs, k, j, rfl, rfl, hp, hj, q⟩ := h
  cases ro
  obtain ⟨t, rfl⟩ := ri
  obtain ⟨its, n, r, ho, hz⟩ := I.lst hp
  obtain ⟨h1, h2, h3, h4⟩ := ixN_seq hj
  have hl := r.length
  have hn := line63
  have I' : Inv X pins σ (upd H p (.lst (xs.set j v))) { s with heap := s.heap.update p (Obj.mapSeq (·.setIfInBounds j u)) } :=
    I.lstUpd hp ho (mapSeq_set its n j u) (r.set rv j) (by rw [List.length_set]; exact hz) s.toks
  by_cases h0 : 0 ≤ k
  · have hk : k.toNat = j := by
      rw [seqIndex_of h0 h4] at h1
      exact Option.some.inj h1
    exact PySem.W.ki_setAt ho h0 (by omega) (by rw [List.size_toArray, ← hl]; exact h4) (by rw [hk]; exact ⟨_, I', q⟩)
  · have hk : (k + (its.toArray.size : Int)).toNat = j := by
      rw [seqIndex_neg (by omega) h3] at h1
      rw [List.size_toArray, ← hl]
      exact Option.some.inj h1
    exact PySem.W.ki_setBack ho (by omega) (by rw [List.size_toArray, ← hl]; exact h3) (by omega) (by rw [hk]; exact ⟨_, I', q⟩)
theorem slice_bounds (lo hi : Option Int) (n : Nat) : (sliceBounds lo hi none n).1 = ((HT.sIx n 0 lo : Nat) : Int) ∧ (sliceBounds lo hi none n).2.1 = ((HT.sIx n n hi : Nat) : Int) ∧ (sliceBounds lo hi none n).2.2 = 1 := by
  refine ⟨?_, ?_, rfl⟩
  · cases lo with
    | none => simp [sliceBounds, HT.sIx]
    | some i =>
      simp only [sliceBounds, HT.sIx, Option.getD_none, show (1 : Int) > 0 by decide, if_true]
      by_cases h : i < 0
      · simp only [h, if_true] <;> omega
      · simp only [h, if_false] <;> omega
  · cases hi with
    | none => simp [sliceBounds, HT.sIx]
    | some i =>
      simp only [sliceBounds, HT.sIx, Option.getD_none, show (1 : Int) > 0 by decide, if_true]
      by_cases h : i < 0
      · simp only [h, if_true] <;> omega
      · simp only [h, if_false] <;> omega
theorem slicePick_cut (its : List Value) (lo hi : Option Int) : slicePick its.toArray lo hi none = ((its.drop (HT.sIx its.length 0 lo)).take (HT.sIx its.length its.length hi - HT.sIx its.length 0 lo)).toArray := by
  obtain ⟨h1, h2, h3⟩ := slice_bounds lo hi its.toArray.size
  unfold slicePick
  rw [h1, h2, h3]
  simp only [sliceRange_one, pick_run, List.size_toArray] <;> rfl
def rSlL (K : PySem.W.Frag) : V → Option Int → Option Int → Hp → VK → Prop := fun x lo hi H Q => ∃ a xs, x = .ref a ∧ SqL K H a xs ∧ ∀ p, H p = none → Q (.ref p) (upd H p (.lst (cutV xs lo hi)))
theorem sl_list : SlR X (rSlL X.K) := by
  intro pins s σ H x v vl vu lo hi sl Q I rx hs pl pu h
  obtain ⟨a, xs, rfl, hx, q⟩ := h
  cases rx
  obtain ⟨its, r, ht, hz⟩ := I.list hx
  have hlen := r.length
  refine ⟨"list", _, slot_list_getitem.lookup, ht.isList.typeIs, ?_⟩
  refine wpAny_getItem_list_slice ht.isList hs pl pu .none (by simp) ?_ (by rw [List.size_toArray] <;> omega)
  rw [slicePick_cut, ← hlen]
  refine ⟨.ref s.heap.objs.size, _, I.laid (t' := s.toks) (o := .lst (cutV xs lo hi)) (fun b ob q => Heap.get?_push_of_some _ q) (Nat.le_refl _) ?_, rfl, q _ (I.hok.fresh (Nat.le_refl _))⟩
  exact ⟨Nat.le_trans (cutV_length xs lo hi) hz, _, 0, (r.drop (HT.sIx xs.length 0 lo)).take (HT.sIx xs.length xs.length hi - HT.sIx xs.length 0 lo), Heap.get?_push_size _ rfl⟩
def flatV : V → Bool
  | .non => true
  | .bl _ => true
  | .int _ => true
  | .str _ => true
  | _ => false
def eqV : V → V → Bool
  | .non, .non => true
  | .bl a, .bl b => a == b
  | .bl a, .int b => (if a then 1 else 0) == b
  | .int a, .bl b => a == (if b then 1 else 0)
  | .int a, .int b => a == b
  | .str a, .str b => a == b
  | _, _ => false
def inV (x : V) (xs : List V) : Bool := xs.any fun y => eqV y x
def rIn (K : PySem.W.Frag) (neg : Bool) : R2 := fun x y H Q => ∃ p xs, y = .ref p ∧ (SqL K H p xs ∨ SqT K H p xs) ∧ flatV x = true ∧ xs.all flatV = true ∧ Q (.bl (if neg then !inV x xs else inV x xs)) H
theorem call_len_seq : CallR X (.builtin "len") (fun xs H Q => ∃ p ys, xs = [.ref p] ∧ (SqL X.K H p ys ∨ SqT X.K H p ys) ∧ Q (.int ys.length) H) := by
  intro pins s σ H xs us Q I r h
  obtain ⟨p, ys, rfl, hq, q⟩ := h
  obtain ⟨u, rfl, rx⟩ := vals1 r
  cases rx
  have hn := line63
  rcases hq with hq | hq
  · obtain ⟨its, r', pl, hz⟩ := I.list hq
    have hlen := r'.length
    exact Calls.call_len_list pl.isList (by simp only [List.size_toArray] <;> omega) ⟨.int ys.length, H, I.tok _, ⟨s.toks + 1, by rw [List.size_toArray, hlen]⟩, q⟩
  · obtain ⟨its, r', pl, hz⟩ := I.tuple hq
    have hlen := r'.length
    exact len_tuple pl (by simp only [List.size_toArray] <;> omega) ⟨.int ys.length, H, I.tok _, ⟨s.toks + 1, by rw [List.size_toArray, hlen]⟩, q⟩
theorem CallR.or {f : Value} {r r' : List V → Hp → VK → Prop} (h : CallR X f r) (h' : CallR X f r') : CallR X f (fun xs H Q => r xs H Q ∨ r' xs H Q) := by
  intro pins s σ H xs us Q I rs q
  rcases q with q | q
  · exact h pins s σ H xs us Q I rs q
  · exact h' pins s σ H xs us Q I rs q
theorem call_list_of : CallR X (.type "list") (fun xs H Q => ∃ p ys, xs = [.ref p] ∧ (SqL X.K H p ys ∨ SqT X.K H p ys) ∧ ∀ l, H l = none → Q (.ref l) (upd H l (.lst ys))) := by
  intro pins s σ H xs us Q I r h
  obtain ⟨p, ys, rfl, hq, q⟩ := h
  obtain ⟨u, rfl, rx⟩ := vals1 r
  cases rx
  have fin : ∀ (its : List Value), Vals ys its → ys.length ≤ sizeLine → ∀ (h' : Heap) (c' : Nat), (∀ b o', s.heap.get? b = some o' → h'.get? b = some o') →
      h'.get? s.heap.objs.size = some { cls := .type "list", dict := none, data := .seq its.toArray c', slots := #[] } → EP X pins σ Q (.ref s.heap.objs.size) { s with heap := h' } := fun its r' hz h' c' kp e =>
    ⟨.ref s.heap.objs.size, _, I.laid (t' := s.toks) kp (Nat.le_refl _) (show ObjOk X.prog X.w _ h' _ (.lst ys) from ⟨hz, its, c', r', e⟩), rfl, q _ (I.hok.fresh (Nat.le_refl _))⟩
  rcases hq with hq | hq
  · obtain ⟨its, r', pl, hz⟩ := I.list hq
    have hlen := r'.length
    obtain ⟨o, ho, hc, n, hd⟩ := pl.isList
    exact call_list_seq p (.inl rfl) ho hc hd (fun h' c' kp e => fin its r' hz h' c' kp e) (by simp only [List.size_toArray] <;> omega)
  · obtain ⟨its, r', pl, hz⟩ := I.tuple hq
    have hlen := r'.length
    obtain ⟨o, ho, hc, n, hd⟩ := pl
    exact call_list_seq p (.inr rfl) ho hc hd (fun h' c' kp e => fin its r' hz h' c' kp e) (by simp only [List.size_toArray] <;> omega)
theorem call_tuple_of : CallR X (.type "tuple") (fun xs H Q => ∃ p ys, xs = [.ref p] ∧ ((SqL X.K H p ys ∧ ∀ l, H l = none → Q (.ref l) (upd H l (.tup ys))) ∨ (SqT X.K H p ys ∧ Q (.ref p) H))) := by
  intro pins s σ H xs us Q I r h
  obtain ⟨p, ys, rfl, h⟩ := h
  obtain ⟨u, rfl, rx⟩ := vals1 r
  cases rx
  rcases h with ⟨hq, q⟩ | ⟨hq, q⟩
  · obtain ⟨its, r', pl, hz⟩ := I.list hq
    have hlen := r'.length
    refine call_tuple_list pl.isList (fun h' kp => ?_) (by simp only [List.size_toArray] <;> omega)
    have I1 : Inv X pins σ H { s with heap := h' } := I.kept (t' := s.toks) kp
    have I2 : Inv X pins σ (upd H h'.objs.size (.tup ys)) { s with heap := h'.push { cls := .type "tuple", data := .seq its.toArray } } :=
      I1.laid (t' := s.toks) (fun b o e => Heap.get?_push_of_some _ e) (Nat.le_refl _) (show ObjOk X.prog X.w _ _ _ (.tup ys) from ⟨hz, its, r', IsTup.new _ _⟩)
    exact ⟨.ref h'.objs.size, _, I2, rfl, q _ (I1.hok.fresh (Nat.le_refl _))⟩
  · obtain ⟨its, r', pl, hz⟩ := I.tuple hq
    exact call_tuple_same pl ⟨.ref p, H, I, rfl, q⟩
def tyV (K : PySem.W.Frag) (T : String) (x : V) (H : Hp) : Prop := match x with
  | .str _ => T = "str"
  | .int _ => T = "int"
  | .ref p => (T = "list" ∧ ∃ xs, SqL K H p xs) ∨ (T = "tuple" ∧ ∃ o, K.lookup p = some o ∧ o.cls = .type "tuple" ∧ o.dict = none) ∨
      (T = "dict" ∧ ((∃ kvs, H p = some (.dK kvs)) ∨ ∃ kvs, H p = some (.dT kvs))) ∨ (T = "set" ∧ ∃ S n, H p = some (.set S n))
  | _ => False
theorem tyV_is {pins : List (Addr × Obj)} {σ : St} {H : Hp} {s : Shared} {T : String} {x : V} {v : Value} (I : Inv X pins σ H s) (r : RelV x v) (ty : tyV X.K T x H) :
    s.TypeIs v T ∧ ∀ a, v = .ref a → ∃ ob, s.heap.get? a = some ob ∧ ob.dict = none := by
  cases x with
  | str z =>
    obtain ⟨t, rfl⟩ := r
    cases (show T = "str" from ty)
    exact ⟨typeIs_str s z t, fun _ e => nomatch e⟩
  | int i =>
    obtain ⟨t, rfl⟩ := r
    cases (show T = "int" from ty)
    exact ⟨typeIs_int s i t, fun _ e => nomatch e⟩
  | ref p =>
    cases r
    rcases ty with ⟨rfl, xs, hq⟩ | ⟨rfl, o, hk, hc, hd⟩ | ⟨rfl, hk⟩ | ⟨rfl, S, n, hk⟩
    · obtain ⟨its, _, pl, _⟩ := I.list hq
      refine ⟨pl.isList.typeIs, fun a e => ?_⟩
      cases e
      obtain ⟨o, n, e, c, hd, _⟩ := pl
      exact ⟨o, e, hd⟩
    · refine ⟨⟨o, I.kIn p o hk, hc⟩, fun a e => ?_⟩
      cases e
      exact ⟨o, I.kIn _ o hk, hd⟩
    · have z : ∃ o, s.heap.get? p = some o ∧ o.ExactDict := by
        rcases hk with ⟨kvs, hk⟩ | ⟨kvs, hk⟩
        · obtain ⟨_, _, _, _, o, _, _, e, ex, _⟩ := I.hok p _ hk
          exact ⟨o, e, ex⟩
        · obtain ⟨_, _, _, _, o, _, _, e, ex, _⟩ := I.hok p _ hk
          exact ⟨o, e, ex⟩
      obtain ⟨o, e, ex⟩ := z
      refine ⟨⟨o, e, ex.1⟩, fun a e2 => ?_⟩
      cases e2
      exact ⟨o, e, ex.2.1⟩
    · obtain ⟨o, _, _, _, e, ex, _⟩ := I.hok p _ hk
      refine ⟨⟨o, e, ex.1⟩, fun a e2 => ?_⟩
      cases e2
      exact ⟨o, e, ex.2.1⟩
  | _ => exact False.elim ty
def tBM0 (K : PySem.W.Frag) (T : String) (r : V → List V → Hp → VK → Prop) (to : TE) : TE := fun σ H Q => to σ H fun x H1 => tyV K T x H1 ∧ r x [] H1 Q
def tBM (K : PySem.W.Frag) (T : String) (r : V → List V → Hp → VK → Prop) (to : TE) (t : TA) : TE := fun σ H Q => to σ H fun x H1 => tyV K T x H1 ∧ t σ H1 fun xs H2 => r x xs H2 Q
variable {o e : Expr} {es : List Expr} {to : TE} {t : TA} {name : Str} {apos cpos : Pos} {T id : String} {r : V → List V → Hp → VK → Prop}
theorem pe_bm (pa : PlainAttrs T) (slot : Slot T name id) (hty : typeOf (.builtin id) = pure (.type "method_descriptor")) (hm : MtR X id r) (ho : PE X o to) (ha : PA X (e :: es) t)
    (hbase : attributeBase o name X.env (eval o X.env) = eval o X.env := by rfl)
    (hfew : ((backTo cpos (starEach (e :: es) X.env)).all (fun x => !x.1) && (backToKw cpos (keywordEach [] X.env)).all (fun x => x.1.isSome)
      && decide ((e :: es).length + ([] : List Keyword).length + (if ([] : List Keyword).isEmpty then 0 else 1) < 30)) = true := by rfl)
    (hline : (apos.endLine == cpos.line) = true := by rfl) (hs : starEach (e :: es) X.env = (false, eval e X.env) :: starEach es X.env := by rfl) (hplain : (backTo cpos (starEach es X.env)).any (·.1) = false := by rfl) :
    PE X (.Call (.Attribute o name apos) (e :: es) [] cpos) (tBM X.K T r to t) := by
  intro pins s σ H Q I h
  refine wpAny_Call_method_late hbase hfew hline rfl (thn (ho pins s σ H _ I h) fun v s1 ⟨x, H1, I1, r1, ty, q1⟩ => ?_)
  obtain ⟨h1, h2⟩ := tyV_is I1 r1 ty
  refine ⟨T, id, pa, slot, hty, h1, h2, ?_⟩
  have hA := ha cpos pins s1 σ H1 _ I1 q1
  rw [hs] at hA ⊢
  refine Calls.callWith_builtin (by show (false || (backTo cpos (starEach es X.env)).any (·.1)) = false; rw [hplain] <;> rfl) (Calls.evalArgs_plain ?_)
  exact thn hA fun us s2 ⟨vs, H2, I2, r2, q2⟩ => hm pins s2 σ H2 x vs v us Q I2 r1 r2 q2
/- xs.append(e), list.index on a module's tuple .. are MtR facts of 06m -/
end
end L2
namespace L2
open PySem PySem.Spec PyProof.Rows
def MtM (X : Cx) (id : String) (r : V → List V → Hp → VK → Prop) : Prop :=
  ∀ (pins : List (Addr × Obj)) (s : Shared) (σ : St) (H : Hp) (x : V) (xs : List V) (v : Value) (us : List Value) (Q : VK), Inv X pins σ H s → RelV x v → Vals xs us → r x xs H Q →
    wpAny (model X.prog X.w) X.A (call (.builtin id) (v :: us)) (EP X pins σ Q) X.xe s
theorem Vals.one : ∀ {x : V} {us : List Value}, Vals [x] us → ∃ u, us = [u] ∧ RelV x u
  | _, _, .cons r .nil => ⟨_, rfl, r⟩
theorem Vals.zero : ∀ {us : List Value}, Vals [] us → us = []
  | _, .nil => rfl
theorem Vals.reverse {xs : List V} {us : List Value} (h : Vals xs us) : Vals xs.reverse us.reverse := by
  induction h with
  | nil => exact .nil
  | cons r t ih => rw [List.reverse_cons, List.reverse_cons]; exact Vals.append ih (.cons r .nil)
theorem Vals.rep {xs : List V} {us : List Value} (h : Vals xs us) : ∀ k : Nat, Vals (List.replicate k xs).flatten (List.replicate k us).flatten
  | 0 => .nil
  | k + 1 => by
    rw [List.replicate_succ, List.replicate_succ, List.flatten_cons, List.flatten_cons]
    exact Vals.append h (Vals.rep h k)
theorem foldl_rep (its : List Value) : ∀ (k : Nat) (acc : List Value),
    List.foldl (fun x1 x2 => x1 ++ x2) acc.toArray (List.replicate k its.toArray) = (acc ++ (List.replicate k its).flatten).toArray
  | 0, acc => by simp
  | k + 1, acc => by
    have e : acc.toArray ++ its.toArray = (acc ++ its).toArray := by simp
    have e2 : (acc ++ its) ++ (List.replicate k its).flatten = acc ++ (List.replicate (k + 1) its).flatten := by
      rw [List.replicate_succ, List.flatten_cons, List.append_assoc]
    rw [← e2, ← foldl_rep its k (acc ++ its), ← e, List.replicate_succ, List.foldl_cons]
section
variable {X : Cx} {pins : List (Addr × Obj)} {σ : St} {H : Hp} {s : Shared} {l b : Addr} {xs ys zs : List V}
theorem Inv.lset {its its' : List Value} {n : Nat} {f : Array Value → Array Value} {t' : Nat} (I : Inv X pins σ H s) (hH : H l = some (.lst xs))
    (e : s.heap.get? l = some { cls := .type "list", data := .seq its.toArray n }) (hf : f its.toArray = its'.toArray) (hv : Vals ys its') (hz : ys.length ≤ sizeLine) :
    Inv X pins σ (upd H l (.lst ys)) { s with heap := s.heap.update l (Obj.mapSeq f), toks := t' } := by
  have q := PySem.IsL.update e f
  rw [hf] at q
  refine I.write (x := l) (e := l) (by rw [hH]; exact trivial) (.inl rfl) (fun b' u hb hu => (Heap.get?_update_other s.heap (Obj.mapSeq f) (Ne.symm hb)).trans hu) ⟨_, q⟩ ?_
  exact ⟨hz, its', _, hv, q⟩
theorem Inv.lnew {its : List Value} {t' : Nat} (I : Inv X pins σ H s) (hv : Vals ys its) (hz : ys.length ≤ sizeLine) :
    Inv X pins σ (upd H s.heap.objs.size (.lst ys)) { s with heap := s.heap.push { cls := .type "list", data := .seq its.toArray }, toks := t' } :=
  I.laid (fun _ _ q => Heap.get?_push_of_some _ q) (Nat.le_refl _) ⟨hz, its, 0, hv, Heap.get?_push_size _ rfl⟩
theorem Inv.fresh (I : Inv X pins σ H s) : H s.heap.objs.size = none := I.hok.fresh (Nat.le_refl _)
theorem Inv.lstM (I : Inv X pins σ H s) (hH : H l = some (.lst xs)) : xs.length ≤ sizeLine ∧ ∃ (its : List Value) (n : Nat), Vals xs its ∧ xs.length = its.length ∧ s.heap.get? l = some { cls := .type "list", data := .seq its.toArray n } := by
  obtain ⟨z, its, n, r, e⟩ := I.hok l _ hH
  exact ⟨z, its, n, r, r.length, e⟩
theorem notLongL {n : Nat} (h : n ≤ sizeLine) : Builtin.List.listTooLong n = false := by
  unfold Builtin.List.listTooLong
  exact decide_eq_false (by omega)
end
section
variable {X : Cx}
def rAppend : V → List V → Hp → VK → Prop := fun x vs H Q => ∃ l xs y, x = .ref l ∧ vs = [y] ∧ H l = some (.lst xs) ∧ xs.length < sizeLine ∧ Q .non (upd H l (.lst (xs ++ [y])))
theorem mt_append : MtM X "list.append" rAppend := by
  intro pins s σ H x vs v us Q I rx rv h
  obtain ⟨l, xs, y, rfl, rfl, hH, hz, q⟩ := h
  cases rx
  obtain ⟨u, rfl, ru⟩ := rv.one
  obtain ⟨z, its, n, r, hl, e⟩ := I.lstM hH
  refine call_meets F.slot_list_append ⟨_, e, rfl⟩ F.entry_list_append (F.args_list_append_2 _ _) (PySem.list_append l its.toArray n u (by rw [List.size_toArray]; omega)) ⟨e, ?_⟩
  refine ⟨.non, _, I.lset (its' := its ++ [u]) hH e (by simp) (r.append (.cons ru .nil)) ?_, rfl, q⟩
  rw [List.length_append, List.length_singleton]
  omega
def rReverse : V → List V → Hp → VK → Prop := fun x vs H Q => ∃ l xs, x = .ref l ∧ vs = [] ∧ H l = some (.lst xs) ∧ Q .non (upd H l (.lst xs.reverse))
def rClear : V → List V → Hp → VK → Prop := fun x vs H Q => ∃ l xs, x = .ref l ∧ vs = [] ∧ H l = some (.lst xs) ∧ Q .non (upd H l (.lst []))
def rCat : R2 := fun x y H Q => ∃ l b xs zs, x = .ref l ∧ y = .ref b ∧ H l = some (.lst xs) ∧ H b = some (.lst zs) ∧ xs.length + zs.length ≤ sizeLine ∧ ∀ p, H p = none → Q (.ref p) (upd H p (.lst (xs ++ zs)))
theorem op_cat : OpR X (binaryOp .Add) rCat := by
  intro pins s σ H x y v u Q I rx ry h
  obtain ⟨l, b, xs, zs, rfl, rfl, hH, hB, hz, q⟩ := h
  cases rx
  cases ry
  obtain ⟨z, its, n, r, hl, e⟩ := I.lstM hH
  obtain ⟨z2, its2, n2, r2, hl2, e2⟩ := I.lstM hB
  refine PySem.P.add_list e e2 ?_ (by rw [List.size_toArray, List.size_toArray]; omega)
  have ea : its.toArray ++ its2.toArray = (its ++ its2).toArray := by simp
  rw [ea]
  exact ⟨.ref _, _, I.lnew (t' := s.toks) (r.append r2) (by rw [List.length_append]; omega), rfl, q _ I.fresh⟩
def rRep : R2 := fun x y H Q => ∃ l k xs, x = .ref l ∧ y = .int k ∧ H l = some (.lst xs) ∧ -(2 ^ 63) ≤ k ∧ k < 2 ^ 63 ∧ xs.length * k.toNat ≤ sizeLine ∧
  ∀ p, H p = none → Q (.ref p) (upd H p (.lst (List.replicate k.toNat xs).flatten))
theorem len_rep {α : Type} (xs : List α) (k : Nat) : (List.replicate k xs).flatten.length = k * xs.length := by
  induction k with
  | zero => simp
  | succ k ih => rw [List.replicate_succ, List.flatten_cons, List.length_append, ih, Nat.succ_mul, Nat.add_comm]
theorem op_rep : OpR X (binaryOp .Mult) rRep := by
  intro pins s σ H x y v u Q I rx ry h
  obtain ⟨l, k, xs, rfl, rfl, hH, h1, h2, hz, q⟩ := h
  cases rx
  obtain ⟨t, rfl⟩ := ry
  obtain ⟨z, its, n, r, hl, e⟩ := I.lstM hH
  have hlen : its.toArray.size * k.toNat ≤ sizeLine := by rw [List.size_toArray, ← hl]; exact hz
  have hcap : ¬ its.toArray.size * k.toNat > (2 ^ 63 - 1) / 8 := by
    have : (sizeLine : Nat) ≤ (2 ^ 63 - 1) / 8 := by decide
    omega
  have hfit : ¬ (!Builtin.List.listFitsIndex k) = true := by
    rw [fitsIndex_both h1 h2]
    exact Bool.false_ne_true
  have hlong : ¬ Builtin.List.listTooLong (its.toArray.size * k.toNat) = true := by
    rw [notLongL hlen]
    exact Bool.false_ne_true
  have hnew : List.foldl (fun x1 x2 => x1 ++ x2) #[] (List.replicate (if its.toArray.isEmpty = true then 0 else k.toNat) its.toArray) = (List.replicate k.toNat its).flatten.toArray := by
    have f0 : ∀ m : Nat, List.foldl (fun x1 x2 => x1 ++ x2) #[] (List.replicate m its.toArray) = (List.replicate m its).flatten.toArray := fun m => by
      have := foldl_rep its m []
      rw [List.nil_append] at this
      exact this
    rw [f0]
    cases its with
    | nil => simp
    | cons a r' => rw [if_neg (by simp)]
  refine wpAny_binaryOp_repeat_ref (T := "list") (U := "int") (by decide) ⟨_, e, rfl⟩ (fun s' => typeIs_int s' k t) noFill_list_mul F.fills_int_mul F.slot_int_rmul repeat_list F.slot_int_index.lookup
    (call_meets F.slot_int_rmul (typeIs_int s k t) F.entry_int_rmul (F.args_int_rmul_2 _ _) (int___rmul___int_list k t l its.toArray n)
      ⟨e, rfl, ⟨_, e, rfl⟩, call_meets F.slot_list_mul ⟨_, e, rfl⟩ F.entry_list_mul (F.args_list_mul_2 _ _) (AutoListH.list___mul___list_int_3 l its.toArray n k t hfit hcap hlong) ⟨e, ?_⟩⟩)
  rw [hnew]
  exact ⟨.ref _, _, I.lnew (t' := s.toks) (r.rep k.toNat) (by rw [len_rep, Nat.mul_comm]; exact hz), rfl, q _ I.fresh⟩
end
section
variable {prog : Program} {w : World} {A : Around} {E : Value → Shared → Prop} {s : Shared}
end
section
variable {X : Cx}
end
end L2
namespace Att
open PySem PySem.W PySem.Calls PyProof.Rows
theorem ints_of_wellAll {P : Params} {h : Heap} : ∀ (ns : List Int) (vs : List Value), WellAll P h vs (ns.map WData.int) → IntsAre vs ns := by
  intro ns
  induction ns with
  | nil =>
    intro vs w
    rw [List.map_nil] at w
    cases w
    exact .nil
  | cons n ns ih =>
    intro vs w
    rw [List.map_cons] at w
    cases w with
    | cons a b =>
      cases a
      exact .cons _ _ (ih _ b)
theorem script_of {l : OpenLaw} {n : Nat} (hn : l.most = some n) {P : Params} {h : Heap} {args : List WData} {vals : List Value}
    (hpre : l.row.toRowW.claim.pre args = true) (hwl : WellAll P h vals args) :
    ∃ a vs ns, vals = [Value.ref a] ∧ args = [WData.list (ns.map WData.int)] ∧ h.get? a = some { cls := .type "list", data := .seq vs.toArray } ∧ IntsAre vs ns ∧ ns.length ≤ n := by
  have hsh : WShape.hasAll [] args [.list .int] = true := (pre_splitW hpre).1
  have hc : l.pre.holds [] { args := args } = true := (pre_splitW hpre).2
  obtain ⟨d, r, rfl, h1, h2⟩ := hasAllW_cons hsh
  obtain rfl := hasAllW_nil h2
  obtain ⟨xs, rfl, h3⟩ := hasW_list h1
  obtain ⟨ns, rfl⟩ := items_int h3
  have hlen : ns.length ≤ n := by
    unfold OpenLaw.pre at hc
    have h4 : (WTm.not (.lt (.lit (.int (n : Int))) (.len (.arg 0)))).holds [] { args := [.list (ns.map .int)] } = true := by
      have h4 := (holds_andW hc).1
      rw [hn] at h4
      exact h4
    have h5 := condW_of h4 (w_not (w_lt w_lit (w_len_list (w_arg rfl))))
    rw [List.length_map] at h5
    refine Nat.le_of_not_lt fun q => ?_
    have q' : (n : Int) < ((ns.length : Nat) : Int) := by omega
    first
      | (rw [decide_eq_true q'] at h5; exact absurd h5 (by decide))
      | (simp at h5; omega)
  cases hwl with
  | cons w1 w2 =>
    cases w2
    cases w1 with
    | list ho hall => exact ⟨_, _, ns, rfl, rfl, ho, ints_of_wellAll ns _ hall, hlen⟩
theorem post_true (l : OpenLaw) (args : List WData) : l.row.toRowW.claim.post args (.bool true) args = true :=
  postW_of (r := l.row.toRowW) (X := (true == true))
    (show WShape.has [] (.bool true) .bool = true by first | rfl | decide | simp [WShape.has, WShape.arms, WShape.armsAll])
    (show (WTm.eq .res (.lit (.bool true))).value [] { args := args, res := some (.bool true), after := args } = some (.bool (true == true)) from w_eq_bool (w_res rfl) w_lit) rfl
theorem attach_call {l : OpenLaw} {n : Nat} {q : Program} {loose : List Str} {XP : (Str → Option Value) → Heap → Prop} {YP : World → Heap → Prop} {d : DefRec}
    (hn : l.most = some n) (hdf : d.params.defaults = [])
    (call : ∀ (w : World) (s₀ s₁ : Shared) (mg mb : Str → Option Value) (fa : Addr) (o : Obj) (pm cd doc : Value) (a : Addr) (vs : List Value) (ns : List Int),
      Ground q loose [] XP w s₀ mg mb s₁.heap → YP w s₁.heap →
      s₁.heap.get? fa = some o → o.data = .func (docDef d.name d.params d.body d.scope pm cd doc) → s₁.heap.CodeRec cd d.name → mg d.name = some (.ref fa) →
      s₁.heap.get? a = some { cls := .type "list", data := .seq vs.toArray } → IntsAre vs ns → ns.length ≤ n → s₁.gens = #[] →
      codeAny (model l.prog w) callerA (.call (.ref fa) ⟨[.ref a], []⟩) (fun r s' => r = .ok (.ret (.bool true)) ∧ OldK s₁.heap s'.heap ∧ s'.os = s₁.os ∧ AllBare s'.gens) s₁) :
    WalkO q loose XP YP l.row.toRowW d [] (fun f vs => PySem.call f vs) := by
  intro w s₀ s₁ mg mb G Y fa o pm cd doc dV kV ho hd hcd hD hmg hg args vals as hpre hlay hrd hwl hlo
  obtain rfl : dV = .none := Dflts.none hD hdf
  obtain rfl : kV = .none := Dflts.noKw hD
  obtain ⟨a, vs, ns, rfl, rfl, hobj, hints, hlen⟩ := script_of hn hpre hwl
  refine enter_call (codeAny_mono (call w s₀ s₁ mg mb fa o pm cd doc a vs ns G Y ho (fd_plain hd) hcd hmg hobj hints hlen hg) fun r s' hq => ?_)
  obtain ⟨rfl, h2, h3, h4⟩ := hq
  exact ⟨.inl ⟨.bool true, .bool true, [], rfl, fun _ => rfl, .bool true, post_true l _, fun _ => ⟨List.Pairwise.nil, fun _ hm => (nomatch hm)⟩⟩, h2, h3, h4⟩
section
variable {prog : Program} {w : World} {A : Around} {E : Value → Shared → Prop} {s : Shared} {K : Frag}
end
end Att
namespace L2
open PySem PySem.Spec PyProof.Rows
theorem vals_ints : ∀ {vs : List Value} {ns : List Int}, IntsAre vs ns → Vals (ns.map V.int) vs
  | _, _, .nil => .nil
  | _, _, .cons n t h => .cons ⟨t, rfl⟩ (vals_ints h)
def Only (H : Hp) : Prop := ∀ b, H b = none ∨ ∃ o xs, H b = some (.frz o (.lst xs))
theorem law_call {P : Program} {w : World} {K : PySem.W.Frag} {mg mb : Str → Option Value} {CX : CXT} {k : Nat} {fa a : Addr} {fd : FuncData} {x : Str} {sp : Sp} {s₁ : Shared} {vs : List Value} {ns : List Int}
    (KX : K.In s₁.heap) (hns : s₁.heap.Ns mainGlobals mg) (hb : s₁.heap.Ns builtinsNs mb) (hbb : ∀ x : Str, x ≠ "__name__" → mb x = bootBuiltins x) (hlim : s₁.heap.NoLimit) (hg : s₁.gens = #[])
    (ha : s₁.heap.get? a = some { cls := .type "list", data := .seq vs.toArray }) (hi : IntsAre vs ns) (hl : ns.length ≤ sizeLine) (hr : Room k callerA)
    (F : ∀ base : Heap, K.In base → base.Ns mainGlobals mg → FnOk P w K mg base CX k fa fd [x] sp) (hbind : ∀ (s : Shared) (u : Value), BindsTo s fd ⟨[u], []⟩ [(x, u)])
    (hsp : ∀ H : Hp, Only H → SqL K H a (ns.map V.int) → sp [.ref a] H (fun v _ => v = .bl true) fun _ _ _ => False)
    (hCX : ∀ H e s', CX [] H s₁ (fun _ _ _ => False) e s' → False) :
    codeAny (model P w) callerA (.call (.ref fa) ⟨[.ref a], []⟩) (fun r s' => r = .ok (.ret (.bool true)) ∧ OldK s₁.heap s'.heap ∧ s'.os = s₁.os ∧ AllBare s'.gens) s₁ := by
  have rv := vals_ints hi
  have lenV := hi.length
  -- from an abstract heap in which nothing but the script may be tracked
  have core : ∀ H : Hp, Only H → SqL K H a (ns.map V.int) → HOk P w H s₁.heap → (∀ b, H b ≠ none → b = a) → (H a ≠ none → K.lookup a = none) →
      codeAny (model P w) callerA (.call (.ref fa) ⟨[.ref a], []⟩) (fun r s' => r = .ok (.ret (.bool true)) ∧ OldK s₁.heap s'.heap ∧ s'.os = s₁.os ∧ AllBare s'.gens) s₁ := by
    intro H hO hS hok hA hK
    have base_of : ∀ {b : Addr} {o : Obj}, s₁.heap.get? b = some o → H b = none → (hidT s₁.heap H).get? b = some o := fun e n => hidT_get e n
    have noA : ∀ {b : Addr} {o : Obj} {es : Array DictEntry} {ep : Nat}, s₁.heap.get? b = some o → o.data = .dict es ep → H b = none := fun {b o es ep} e d => by
      cases q : H b with
      | none => rfl
      | some u =>
        have e' : b = a := hA b (by rw [q]; simp)
        subst e'
        rw [ha] at e; cases e
        have d' : Data.seq vs.toArray _ = Data.dict es ep := d
        cases d'
    have nsK : ∀ {b : Addr} {m : Str → Option Value}, s₁.heap.Ns b m → (hidT s₁.heap H).Ns b m := fun {b m} ⟨o, es, ep, e, d, r⟩ => ⟨o, es, ep, base_of e (noA e d), d, r⟩
    have hKb : K.In (hidT s₁.heap H) := fun b o e => base_of (KX b o e) (by
      cases q : H b with
      | none => rfl
      | some u =>
        have e' : b = a := hA b (by rw [q]; simp)
        subst e'
        rw [hK (by rw [q]; simp)] at e; cases e)
    have hM : Mod K mg (hidT s₁.heap H) := ⟨hKb, nsK hns, ⟨mb, nsK hb, hbb⟩, let ⟨mc, h1, h2⟩ := hlim; ⟨mc, nsK h1, h2⟩⟩
    have e0 : Env0 P w K mg (hidT s₁.heap H) callerA [] s₁ H := ⟨rfl, hM, fun b o e => of_hidT e, Nat.le_of_eq (hidT_size _ _), trivial, fun b hb => absurd (show b ∈ ([] : List Addr) from hb) (by simp), hok, .of_eq hg⟩
    refine codeAny_mono ((F _ hKb (nsK hns)).run callerA [] s₁ H ⟨[.ref a], []⟩ [.ref a] [.ref a] _ _ hr e0 (hbind s₁ (.ref a)) (.cons rfl .nil) (hsp H hO hS)) fun r s' h => ?_
    cases r with
    | error e => exact (hCX H e s' h).elim
    | ok fl =>
      cases fl with
      | next => exact False.elim h
      | brk => exact False.elim h
      | cont => exact False.elim h
      | ret u =>
        obtain ⟨v, H', os, bare, un, hok', r', q⟩ := h
        have q' : v = .bl true := q
        subst q'
        obtain rfl : u = Value.bool true := r'
        refine ⟨rfl, OldK.of_keep fun b o e => ?_, os, bare⟩
        cases q : H b with
        | none => exact un.keep b o e q (by intro z; exact absurd (show b ∈ ([] : List Addr) from z) (by simp)) (by simp)
        | some u =>
          rcases hO b with z | ⟨ob, xs, z⟩
          · rw [q] at z; cases z
          · have z2 := un.frzs b ob _ z
            obtain ⟨e1, _⟩ := hok b _ z
            obtain ⟨e2, _⟩ := hok' b _ z2
            rw [e] at e1; cases e1
            exact e2
  cases hk : K.lookup a with
  | some o =>
    -- the script is one of the module's own objects
    have e := KX a o hk
    rw [ha] at e
    cases e
    refine core (fun _ => none) (fun _ => .inl rfl) (.inr ⟨_, vs.toArray, _, hk, rfl, rfl, rfl, by rw [List.size_toArray, lenV]; exact hl, by simpa using rv⟩) (fun b u z => by have z' : (none : Option HO) = some u := z; cases z') (fun b z => absurd rfl z) fun z => absurd rfl z
  | none =>
    refine core (fun b => if b = a then some (.frz { cls := .type "list", data := .seq vs.toArray } (.lst (ns.map V.int))) else none) (fun b => ?_) (.inl (.inr ⟨{ cls := .type "list", data := .seq vs.toArray }, if_pos rfl⟩)) (fun b u z => ?_) (fun b z => ?_) fun _ => hk
    · by_cases hb : b = a
      · exact .inr ⟨_, _, if_pos hb⟩
      · exact .inl (if_neg hb)
    · by_cases hb : b = a
      · have z' := (if_pos hb).symm.trans z
        cases z'
        subst hb
        exact ⟨ha, by rw [List.length_map]; exact hl, vs, _, rv, ha⟩
      · have z' := (if_neg hb).symm.trans z
        cases z'
    · by_cases hb : b = a
      · exact hb
      · exact absurd (if_neg hb) z
end L2
namespace L2
open PySem PySem.Spec PyProof.Rows
abbrev KOf {K : PySem.W.Frag} {h : Heap} (_ : K.In h) : PySem.W.Frag := K
theorem walk_of {l : PySem.W.OpenLaw} {n k : Nat} {q : Program} {loose : List Str} {XP : (Str → Option Value) → Heap → Prop} {YP : World → Heap → Prop} {d : DefRec} {K : Params → PySem.W.Frag} {CX : World → CXT} {sp : World → Sp} {x : Str}
    (hn : l.most = some n) (hn2 : n ≤ sizeLine) (hdf : d.params.defaults = []) (hr : Room k callerA)
    (hY : ∀ (w : World) (h : Heap), YP w h → (K w.params).In h)
    (F : ∀ (w : World) (mg : Str → Option Value) (fa : Addr) (h : Heap), (K w.params).In h → h.Ns mainGlobals mg → mg d.name = some (.ref fa) →
      ∃ fd : FuncData, (∀ (s : Shared) (u : Value), BindsTo s fd ⟨[u], []⟩ [(x, u)]) ∧
        ∀ base : Heap, (K w.params).In base → base.Ns mainGlobals mg → FnOk l.prog w (K w.params) mg base (CX w) k fa fd [x] (sp w))
    (hsp : ∀ (w : World) (H : Hp) (a : Addr) (ns : List Int), ns.length ≤ n → Only H → SqL (K w.params) H a (ns.map V.int) → sp w [.ref a] H (fun v _ => v = .bl true) fun _ _ _ => False)
    (hCX : ∀ (w : World) (H : Hp) (s : Shared) (e : Value) (s' : Shared), CX w [] H s (fun _ _ _ => False) e s' → False) :
    PySem.W.WalkO q loose XP YP l.row.toRowW d [] (fun f vs => PySem.call f vs) := by
  refine Att.attach_call hn hdf fun w s₀ s₁ mg mb fa o pm cd doc a vs ns G Y ho hd hcd hmg hobj hints hlen hg => ?_
  have KX := hY w _ Y
  obtain ⟨fd, hb, hF⟩ := F w mg fa _ KX G.T.g hmg
  exact law_call KX G.T.g G.T.b G.T.builtins G.T.nolimit hg hobj hints (Nat.le_trans hlen hn2) hr hF hb (fun H hO hS => hsp w H a ns hlen hO hS) fun H e s' => hCX w H s₁ e s'
end L2
/- THE LAST THEOREM (shape; LID, My.* are yours):
   My.Adr: a structure of the addresses that your layer names (classes, functions); My.Txt K t: a structure (Prop) of the equations over K;
   My.txt_mk : {K} {implicit addresses ..} (e1 : nsIn K mainGlobals "law" = some (some (.ref f))) (e2 : K.lookup f = some ⟨oc, od, .func (fnOf "law" "law" params body scope dV kV doc pm an cdv ct), sl⟩) (e3 : codeIn K cdv "law" = true) .. : ∃ t, My.Txt K t
set_option maxRecDepth 100000 in
set_option maxHeartbeats 0 in
theorem PySem.Challenge.cw_LID_holds : PySem.Challenge.rw_LID.Holds := by
  w_on; o_law; k_head; (case hw => w_witness2)
  k_fill
  refine L2.walk_of (l := PySem.Challenge.rw_LID) (n := 63) (k := 40) (x := "script") (CX := fun w => ..) (sp := fun _ => My.sp_law) rfl (by decide) rfl ⟨rfl, by decide, by decide⟩ (fun w h Y => PySem.W.kIn_of Y) ?F ?S ?C
  case F =>
    intro w mg fa h KX G hmg
    have T : ∃ t, My.Txt (L2.KOf KX) t := by
      dsimp only [L2.KOf]                          -- K must stand as «<heap const> w.params» for k_is
      refine' My.txt_mk ?e1 ?e2 ?e3 ..
      (case e1 => PySem.W.k_is)                    -- in the order: a name -> its address -> its object -> its parts
      (case e2 => PySem.W.k_is)
      ..
    obtain ⟨t, T⟩ := T
    have e0 := hmg.symm.trans (PySem.W.mg_of KX G T.law)
    cases e0                                       -- fa is the law's own address
    exact ⟨_, fun s u => .of_eq rfl, fun base kb nb => My.law_fn T kb nb⟩     -- if «.of_eq rfl» comes too early: refine' ⟨_, ?b, fun base kb nb => My.law_fn T kb nb⟩; exact fun s u => .of_eq rfl
  case S => exact fun w H a ns hl hO hS => ..
  case C => exact ..
(the tactic k_is has no namespace: write k_is) -/
namespace L2
open PySem PySem.Spec PyProof.Rows
def defArgs (s : Stmt) : Arguments := match s with
  | .FunctionDef _ a _ _ _ _ _ _ _ _ => a
  | _ => { posonlyargs := [], args := [], vararg := none, kwonlyargs := [], kw_defaults := [], kwarg := none, defaults := [] }
def defBody (s : Stmt) : List Stmt := match s with
  | .FunctionDef _ _ b _ _ _ _ _ _ _ => b
  | _ => []
def defScope (s : Stmt) : Scope := match s with
  | .FunctionDef _ _ _ _ _ _ sc _ _ _ => sc
  | _ => { kind := .function, names := [], isGenerator := false, isCoroutine := false }
abbrev CX0 : CXT := fun _ _ _ _ _ _ => False
abbrev E0 : XK := fun _ _ _ => False
structure Fun (K : PySem.W.Frag) (x qual : Str) (st : Stmt) (f : Addr) (fd : FuncData) : Prop where
  ex : ∃ (oc : Value) (od : Option Addr) (kV doc pm : Value) (an : Option Addr) (cdv ct : Value) (osl : Array (Option Value)),
    fd = PySem.W.fnOf x qual (defArgs st) (defBody st) (defScope st) .none kV doc pm an cdv ct ∧ K.lookup f = some ⟨oc, od, .func fd, osl⟩ ∧ PySem.W.codeIn K cdv qual = true
  kp : PySem.W.keepIn K (.ref f) = true
section
variable {P : Program} {w : World} {K : PySem.W.Frag} {mg : Str → Option Value} {base : Heap}
theorem Fun.ok {x qual : Str} {st : Stmt} {f : Addr} {fd : FuncData} {N ps : List Str} {k : Nat} {sp : Sp} (F : Fun K x qual st f fd) (S : FnScope N ps (defScope st)) (len : ∀ vs H Q E, sp vs H Q E → vs.length = ps.length)
    (hbody : ∀ (cdv : Value) (A : Around) (outer : List Env) (s : Shared) (H : Hp) (vs : List V) (Q : VK) (E : XK), Room k (A.deeper (envOfC qual (defScope st) s.heap.objs.size f cdv)) → sp vs H Q E →
      ∃ t, PSs (cxOf CX0 P w K mg base N qual (defScope st) f cdv A outer s H E).nox (defBody st) t ∧ t { nx := fun _ H' => Q .non H', rt := Q } (start N vs) H) : FnOk P w K mg base CX0 (k + 1) f fd ps sp := by
  obtain ⟨oc, od, kV, doc, pm, an, cdv, ct, osl, rfl, lk, hcd⟩ := F.ex
  refine fn_of lk hcd S len fun A outer s H vs Q E hr hsp => ?_
  obtain ⟨t, h, q⟩ := hbody cdv A outer s H vs Q E hr hsp
  exact ⟨t, h.nox, q⟩
theorem Fun.binds {x qual : Str} {st : Stmt} {f : Addr} {fd : FuncData} {ps : List Str} (F : Fun K x qual st f fd)
    (h : ∀ (kV doc pm : Value) (an : Option Addr) (cdv ct : Value) (us : List Value), us.length = ps.length → bindArgs (PySem.W.fnOf x qual (defArgs st) (defBody st) (defScope st) .none kV doc pm an cdv ct) ⟨us, []⟩ = pure (ps.zip us)) : Binds K fd ps [] := by
  obtain ⟨oc, od, kV, doc, pm, an, cdv, ct, osl, rfl, lk, hcd⟩ := F.ex
  exact .all (h kV doc pm an cdv ct)
theorem fun_mk {x qual : Str} {st : Stmt} {f : Addr} {oc : Value} {od an : Option Addr} {osl : Array (Option Value)} {kV doc pm cdv ct : Value} (l : K.lookup f = some ⟨oc, od, .func (PySem.W.fnOf x qual (defArgs st) (defBody st) (defScope st) .none kV doc pm an cdv ct), osl⟩)
    (c : PySem.W.codeIn K cdv qual = true) (k : PySem.W.keepIn K (.ref f) = true) : Fun K x qual st f (PySem.W.fnOf x qual (defArgs st) (defBody st) (defScope st) .none kV doc pm an cdv ct) := ⟨⟨oc, od, kV, doc, pm, an, cdv, ct, osl, rfl, l, c⟩, k⟩
end
theorem small1000 {n : Nat} (h : n ≤ 1000) : n < sizeLine := Nat.lt_of_le_of_lt h (by decide)
section
variable {X : Cx}
theorem pv (i : Nat) {x : Str} {pos : Pos} (hN : X.N[i]? = some x := by rfl) (hv : Vis X.env.scope x := by first | exact Or.inl rfl | exact Or.inr (Or.inl rfl) | exact Or.inr (Or.inr rfl)) (hd : (x == ("__debug__" : Str)) = false := by decide)
    (hcd : (x == ("__classdict__" : Str)) = false := by decide) : PE X (.Name x pos) (tVar i) := pe_var hN hv hd hcd
end
def Same (H H' : Hp) : Prop := ∀ b o, H b = some o → H' b = some o
theorem Same.refl (H : Hp) : Same H H := fun _ _ h => h
theorem Same.trans {H H1 H2 : Hp} (a : Same H H1) (b : Same H1 H2) : Same H H2 := fun c o h => b c o (a c o h)
theorem Same.free {H H' : Hp} (e : Same H H') {l : Addr} (h : H' l = Option.none) : H l = Option.none := by
  cases q : H l with
  | none => rfl
  | some o =>
    rw [e l o q] at h
    cases h
theorem Same.seq {K : PySem.W.Frag} {H H' : Hp} {a : Addr} {xs : List V} (e : Same H H') (h : SqL K H a xs) : SqL K H' a xs := by
  rcases h with (h | ⟨o, h⟩) | h
  · exact .inl (.inl (e _ _ h))
  · exact .inl (.inr ⟨o, e _ _ h⟩)
  · exact .inr h
end L2
namespace L2
open PySem PySem.Spec PyProof.Rows
def Dic (h : Heap) (e : Addr) (dv : Option Addr) : Prop := ∃ ob ws, h.get? e = some ob ∧ ob.dict = dv ∧ ob.data = .fields ws ∧ ws[2]? = some Value.none
structure Rest (fs : List Addr) (x : Addr) (ex : Option Addr) (h h' : Heap) : Prop where
  out : ∀ b o, h.get? b = some o → b ≠ x → some b ≠ ex → b ∉ fs → h'.get? b = some o
  sl : ∀ b o, h.get? b = some o → b ≠ x → some b ≠ ex → ∃ z, h'.get? b = some { o with slots := z }
section
variable {M : Model} {A : Around} {E : Value → Shared → Prop} {s : Shared} {B : Heap} {env : Env} {outer : List Env} {L e : Addr}
theorem dict_mapF (f : Array Value → Array Value) (o : Obj) : (Obj.mapFields f o).dict = o.dict := by
  obtain ⟨c, d, dt, sl⟩ := o
  cases dt <;> rfl
theorem entry_made {ob : Obj} {ws : Array Value} {hd : Value} {had : Bool} {Q : Unit → Shared → Prop} (gf : A.frames = some (env :: outer)) (ff : s.heap.FunFrames B (env :: outer)) (ge : env.frame = some L)
    (o1 : s.heap.get? e = some ob) (o2 : ob.data = .fields ws) (o3 : 1 < ws.size)
    (k : ∀ (h' : Heap) (T : Addr) (oT : Obj) (ts : Array Value), h'.get? e = some (Obj.mapFields (·.setIfInBounds 1 (.ref T)) ob) → T ≠ e → s.heap.get? T = none → h'.get? T = some oT → oT.data = .fields ts → ts[3]? = some (rawInt L) →
      Rest (frs (env :: outer)) e none s.heap h' → Q () { s with heap := h' }) :
    wpAny M A (do let a ← frameOf env; let pl ← entryPlaceOf L had; let b ← EntryCells.newEntry hd a .none (rawInt L) .none pl; setField (.ref e) 1 b) Q E s := by
  have en : e ∉ frs (env :: outer) := fun m => by
    obtain ⟨_, o, q, n⟩ := ff.mem m
    rw [o1] at q; cases q
    exact n ws o2
  refine wpAny_bind (wpAny_frameOf_fun gf ff ge fun h1 so => wpAny_bind (wpAny_entryPlaceOf fun pl place => ?_))
  unfold EntryCells.newEntry newFields
  refine wpAny_bind (wpAny_newObj_type ?_ (place.sizeOk5 _ _ _ _ _))
  have q1 : h1.get? e = some ob := (so.2.1 e en).trans o1
  have q2 := fun oT => Heap.get?_push_of_some (h := h1) oT q1
  refine wpAny_setField (q2 _) o2 o3 ?_
  refine k _ h1.objs.size _ _ ?_ (Nat.ne_of_gt (Heap.lt_size q1)) (Heap.get?_none_of_le (by rw [so.1]; exact Nat.le_refl _)) ((Heap.get?_update_other _ _ (Nat.ne_of_lt (Heap.lt_size q1))).trans (Heap.get?_push_size h1 rfl)) rfl ?_ ?_
  · exact Heap.get?_update_self _ (q2 _) (Obj.isFreed_of_fields (Obj.data_mapFields o2 _))
  · rcases place with rfl | ⟨_, _, _, _, _, _, _, rfl⟩ <;> simp
  · refine ⟨fun b o q n _ nf => ?_, fun b o q n _ => ?_⟩
    · exact (Heap.get?_update_other _ _ (Ne.symm n)).trans (Heap.get?_push_of_some _ ((so.2.1 b nf).trans q))
    · obtain ⟨z, y⟩ := so.2.2 b o q
      exact ⟨z, (Heap.get?_update_other _ _ (Ne.symm n)).trans (Heap.get?_push_of_some _ y)⟩
theorem rest_fly {h h' : Heap} {ex : Option Addr} {l : List Env} (st : B.StaysIn h) (be : B.get? e = none) (bx : ∀ t, ex = some t → B.get? t = none) (ff : h.FunFrames B l) (hx : ∀ t o, ex = some t → h.get? t = some o → ∃ ts, o.data = .fields ts)
    (he : ∀ o, h.get? e = some o → ∃ ts, o.data = .fields ts) (r : Rest (frs l) e ex h h') : B.StaysIn h' ∧ h'.FunFrames B l ∧ h.UpToSlots h' := by
  have up : h.UpToSlots h' := fun b o q nd => r.sl b o q (fun z => by subst z; obtain ⟨ts, y⟩ := he o q; exact nd ts y) fun z => by obtain ⟨ts, y⟩ := hx b o z.symm q; exact nd ts y
  refine ⟨fun b o q => r.out b o (st b o q) (fun z => by rw [z, be] at q; cases q) (fun z => by rw [bx b z.symm] at q; cases q) (fun m => by rw [(ff.mem m).1] at q; cases q), ff.of_keeps fun b o q nd => ?_, up⟩
  obtain ⟨z, y⟩ := up b o q nd
  exact ⟨_, y, rfl⟩
theorem note_first {ob : Obj} {ws : Array Value} {a0 : Value} {Q : Unit → Shared → Prop} (gf : A.frames = some (env :: outer)) (ge : env.frame = some L) (ff : s.heap.FunFrames B (env :: outer)) (st : B.StaysIn s.heap) (be : B.get? e = none)
    (o1 : s.heap.get? e = some ob) (o2 : ob.data = .fields ws) (o3 : ws[1]? = some .none) (o4 : ws[0]? = some a0) (o5 : ws[2]? = some Value.none)
    (k : ∀ h', Heap.HeldW B (env :: outer) e ob.cls a0 L h' → Dic h' e ob.dict → s.heap.UpToSlots h' → Q () { s with heap := h' }) : wpAny M A (noteFrame (.ref e) env) Q E s := by
  have z1 : 1 < ws.size := (Array.getElem?_eq_some_iff.mp o3).1
  unfold noteFrame
  simp only [ge]
  refine wpAny_bind (wpAny_field o1 o2 o3 ?_)
  rw [if_neg (by decide)]
  refine entry_made gf ff ge o1 o2 z1 fun h' T oT ts e1 e2 e3 e4 e5 e6 r => ?_
  obtain ⟨k1, k2, k3⟩ := rest_fly (ex := none) st be (by intro _ z; cases z) ff (by intro _ _ z; cases z) (fun o q => by rw [o1] at q; cases q; exact ⟨ws, o2⟩) r
  refine k h' ⟨k1, be, k2, _, _, T, oT, ts, e1, ⟨Obj.cls_mapFields _ _, ?_⟩, Obj.data_mapFields o2 _, by simp [z1], ?_, e2, e4, e5, e6⟩ ⟨_, _, e1, dict_mapF _ _, Obj.data_mapFields o2 _, by rw [Array.getElem?_setIfInBounds_ne (by decide)]; exact o5⟩ k3
  · rw [Array.getElem?_setIfInBounds_ne (by decide)]; exact o4
  · cases q : B.get? T with
    | none => rfl
    | some o => rw [st T o q] at e3; cases e3
theorem note_next {cls a0 : Value} {dv : Option Addr} {Q : Unit → Shared → Prop} (gf : A.frames = some (env :: outer)) (ge : env.frame = some L) (fl : Heap.FlyingW B (env :: outer) e cls a0 s.heap) (dc : Dic s.heap e dv)
    (k : ∀ h', Heap.HeldW B (env :: outer) e cls a0 L h' → Dic h' e dv → s.heap.UpToSlots h' → Q () { s with heap := h' }) : wpAny M A (noteFrame (.ref e) env) Q E s := by
  obtain ⟨st, be, ff, ob, ws, T, oT, ts, o1, ⟨rfl, o4⟩, o2, o3, bT, nT, t1, t2, t3⟩ := fl
  obtain ⟨ob', ws', q, rfl, d5, o5⟩ := dc
  rw [o1] at q; cases q
  rw [o2] at d5; cases d5
  have z1 : 1 < ws.size := (Array.getElem?_eq_some_iff.mp o3).1
  unfold noteFrame
  simp only [ge]
  refine wpAny_bind (wpAny_field o1 o2 o3 ?_)
  rw [if_pos (by simp)]
  refine wpAny_bind (wpAny_field t1 t2 t3 ?_)
  rw [if_neg (by simp [rawInt])]
  refine wpAny_bind (wpAny_setField t1 t2 (Array.getElem?_eq_some_iff.mp t3).1 ?_)
  have r0 : Rest (frs (env :: outer)) e (some T) s.heap (s.heap.update T (Obj.mapFields (·.setIfInBounds 3 Value.none))) :=
    ⟨fun b o q _ n _ => (Heap.get?_update_other _ _ fun z => n (by rw [z])).trans q, fun b o q _ n => ⟨o.slots, (Heap.get?_update_other _ _ fun z => n (by rw [z])).trans q⟩⟩
  obtain ⟨s1, s2, s3⟩ := rest_fly st be (fun t z => by cases z; exact bT) ff (fun t o z q => by cases z; rw [t1] at q; cases q; exact ⟨ts, t2⟩) (fun o q => by rw [o1] at q; cases q; exact ⟨ws, o2⟩) r0
  have o1' : (s.heap.update T (Obj.mapFields (·.setIfInBounds 3 Value.none))).get? e = some ob := (Heap.get?_update_other _ _ nT).trans o1
  refine entry_made (s := { s with heap := _ }) gf s2 ge o1' o2 z1 fun h' T' oT' ts' e1 e2 e3 e4 e5 e6 r => ?_
  obtain ⟨k1, k2, k3⟩ := rest_fly (ex := none) s1 be (by intro _ z; cases z) s2 (by intro _ _ z; cases z) (fun o q => by have := o1'.symm.trans q; cases this; exact ⟨ws, o2⟩) r
  refine k h' ⟨k1, be, k2, _, _, T', oT', ts', e1, ⟨Obj.cls_mapFields _ _, ?_⟩, Obj.data_mapFields o2 _, by simp [z1], ?_, e2, e4, e5, e6⟩ ⟨_, _, e1, dict_mapF _ _, Obj.data_mapFields o2 _, by rw [Array.getElem?_setIfInBounds_ne (by decide)]; exact o5⟩ (s3.trans k3)
  · rw [Array.getElem?_setIfInBounds_ne (by decide)]; exact o4
  · cases q : B.get? T' with
    | none => rfl
    | some o => have := (s1 T' o q).symm.trans e3; cases this
theorem lands_dic {l : List Env} {cls a0 v : Value} {dv : Option Addr} {Q : Unit → Shared → Prop} (fl : B.StaysIn s.heap ∧ B.get? e = none ∧ s.heap.FunFrames B l ∧ s.heap.TracedAtW B e cls a0 v) (dc : Dic s.heap e dv)
    (k : ∀ h', Heap.FlyingW B l e cls a0 h' → Dic h' e dv → s.heap.UpToSlots h' → Q () { s with heap := h' }) : wpAny M A (setFlight (.ref e) none) Q E s := by
  obtain ⟨st, be, ff, ob, ws, T, oT, ts, o1, oc, o2, o3, bT, nT, t1, t2, t3⟩ := fl
  have z3 : 3 < ts.size := (Array.getElem?_eq_some_iff.mp t3).1
  unfold setFlight
  refine wpAny_bind (wpAny_field o1 o2 o3 ?_)
  rw [if_pos (by simp)]
  refine wpAny_setField t1 t2 z3 ?_
  have r0 : Rest (frs l) e (some T) s.heap (s.heap.update T (Obj.mapFields (·.setIfInBounds 3 ((none : Option Addr).elim Value.none fun f => rawInt f)))) :=
    ⟨fun b o q _ n _ => (Heap.get?_update_other _ _ fun z => n (by rw [z])).trans q, fun b o q _ n => ⟨o.slots, (Heap.get?_update_other _ _ fun z => n (by rw [z])).trans q⟩⟩
  obtain ⟨s1, s2, s3⟩ := rest_fly st be (fun t z => by cases z; exact bT) ff (fun t o z q => by cases z; rw [t1] at q; cases q; exact ⟨ts, t2⟩) (fun o q => by rw [o1] at q; cases q; exact ⟨ws, o2⟩) r0
  have o1' := (Heap.get?_update_other s.heap (Obj.mapFields (·.setIfInBounds 3 ((none : Option Addr).elim Value.none fun f => rawInt f))) nT).trans o1
  refine k _ ⟨s1, be, s2, ob, ws, T, _, _, o1', oc, o2, o3, bT, nT, Heap.get?_update_self _ t1 (Obj.isFreed_of_fields (Obj.data_mapFields t2 _)), Obj.data_mapFields t2 _, by simp [z3]⟩ ?_ s3
  obtain ⟨ob', ws', q, d, d5, o5⟩ := dc
  rw [o1] at q; cases q
  exact ⟨ob, ws', o1', d, d5, o5⟩
theorem leaves_next {cls a0 : Value} {dv : Option Addr} {Q : Unit → Shared → Prop} (gf : A.frames = some (env :: outer)) (ge : env.frame = some L) (fl : Heap.FlyingW B (env :: outer) e cls a0 s.heap) (dc : Dic s.heap e dv)
    (k : ∀ h', Heap.FlyingW B outer e cls a0 h' → Dic h' e dv → s.heap.UpToSlots h' → Q () { s with heap := h' }) : wpAny M A (leaving env (.ref e)) Q E s := by
  unfold leaving
  refine wpAny_bind (note_next gf ge fl dc fun h1 x1 d1 u1 => lands_dic x1 d1 fun h2 x2 d2 u2 => ?_)
  obtain ⟨y1, y2, ⟨_, _, y3⟩, y4⟩ := x2
  exact k h2 ⟨y1, y2, y3, y4⟩ d2 (u1.trans u2)
theorem leaves_first {ob : Obj} {ws : Array Value} {a0 : Value} {Q : Unit → Shared → Prop} (gf : A.frames = some (env :: outer)) (ge : env.frame = some L) (ff : s.heap.FunFrames B (env :: outer)) (st : B.StaysIn s.heap) (be : B.get? e = none)
    (o1 : s.heap.get? e = some ob) (o2 : ob.data = .fields ws) (o3 : ws[1]? = some .none) (o4 : ws[0]? = some a0) (o5 : ws[2]? = some Value.none)
    (k : ∀ h', Heap.FlyingW B outer e ob.cls a0 h' → Dic h' e ob.dict → s.heap.UpToSlots h' → Q () { s with heap := h' }) : wpAny M A (leaving env (.ref e)) Q E s := by
  unfold leaving
  refine wpAny_bind (note_first gf ge ff st be o1 o2 o3 o4 o5 fun h1 x1 d1 u1 => lands_dic x1 d1 fun h2 x2 d2 u2 => ?_)
  obtain ⟨y1, y2, ⟨_, _, y3⟩, y4⟩ := x2
  exact k h2 ⟨y1, y2, y3, y4⟩ d2 (u1.trans u2)
end
end L2
namespace L2
open PySem PySem.Spec PyProof.Rows
theorem ObjOk.there {P : Program} {w : World} {H : Hp} {h : Heap} {a : Addr} {o : HO} (x : ObjOk P w H h a o) : ∃ ob, h.get? a = some ob := by
  cases o with
  | lst xs => obtain ⟨_, _, _, _, q⟩ := x; exact ⟨_, q⟩
  | tup xs => obtain ⟨_, _, _, ob, q, _⟩ := x; exact ⟨ob, q⟩
  | dK kvs => obtain ⟨_, _, _, _, ob, _, _, q, _⟩ := x; exact ⟨ob, q⟩
  | dT kvs => obtain ⟨_, _, _, _, ob, _, _, q, _⟩ := x; exact ⟨ob, q⟩
  | set S n => obtain ⟨ob, _, _, _, q, _⟩ := x; exact ⟨ob, q⟩
  | ins C dx fs => obtain ⟨_, _, _, q, _⟩ := x; exact ⟨_, q⟩
  | own y => exact x
  | xd fs => obtain ⟨_, ⟨ob, _, _, q, _⟩, _⟩ := x; exact ⟨ob, q⟩
  | rng lo hi => obtain ⟨_, _, _, q⟩ := x; exact ⟨_, q⟩
  | frz ob u => obtain ⟨q, _⟩ := x; exact ⟨_, q⟩
  | tbl ps => exact ⟨_, x⟩
  | met f y => exact ⟨_, x⟩
  | ext φ => obtain ⟨_, q, _⟩ := x; exact q
theorem HOk.there {P : Program} {w : World} {H : Hp} {h : Heap} {a : Addr} (k : HOk P w H h) (n : H a ≠ none) : ∃ ob, h.get? a = some ob := by
  cases e : H a with
  | none => exact absurd e n
  | some o => exact (k a o e).there
structure Flown (P : Program) (w : World) (outer : List Env) (H : Hp) (s : Shared) (H' : Hp) (s' : Shared) (B : Heap) (e : Addr) (cls a0 : Value) (dv : Option Addr) : Prop where
  os : s'.os = s.os
  bare : AllBare s'.gens
  un : Un (frs outer) [] H H' s.heap s'.heap
  hok : HOk P w H' s'.heap
  fly : Heap.FlyingW B outer e cls a0 s'.heap
  cond : ∀ b o, s'.heap.get? b = some o → b ∉ frs outer → ((∃ o', s.heap.get? b = some o') ∨ H' b ≠ none) → B.get? b = some o
  frf : ∀ b ∈ frs outer, H' b = none
  dic : Dic s'.heap e dv
def CXe (P : Program) (w : World) : CXT := fun outer H s E ev s' => ∃ (e : Addr) (cls a0 : Value) (dv : Option Addr) (H' : Hp) (B : Heap), ev = .ref e ∧ Flown P w outer H s H' s' B e cls a0 dv ∧ E cls dv H'
section
variable {P : Program} {w : World} {outer : List Env} {H H' : Hp} {s s' : Shared} {B : Heap} {e : Addr} {cls a0 : Value} {dv : Option Addr} {h' : Heap}
theorem Flown.unh (F : Flown P w outer H s H' s' B e cls a0 dv) (k : B.StaysIn h') (u : s'.heap.UpToSlots h') : Un (frs outer) [] H H' s.heap h' where
  keep := fun b o q n hb hx => k b o (F.cond b o (F.un.keep b o q n hb hx) hb (.inl ⟨o, q⟩))
  slot := fun b o q n hb hx => by
    obtain ⟨sl, q1⟩ := F.un.slot b o q n hb hx
    obtain ⟨_, o2, q2, nd⟩ := F.fly.2.2.1.mem hb
    rw [q1] at q2; cases q2
    obtain ⟨sl', q3⟩ := u b _ q1 nd
    exact ⟨sl', q3⟩
  free := F.un.free
  there := fun b o q hx => by
    obtain ⟨o1, q1⟩ := F.un.there b o q hx
    by_cases hb : b ∈ frs outer
    · obtain ⟨_, o2, q2, nd⟩ := F.fly.2.2.1.mem hb
      rw [q1] at q2; cases q2
      obtain ⟨sl', q3⟩ := u b _ q1 nd
      exact ⟨_, q3⟩
    · exact ⟨o1, k b o1 (F.cond b o1 q1 hb (.inl ⟨o, q⟩))⟩
  tups := F.un.tups
  frzs := F.un.frzs
  tbls := F.un.tbls
theorem Flown.trk (F : Flown P w outer H s H' s' B e cls a0 dv) (k : B.StaysIn h') : ∀ b o, H' b ≠ none → s'.heap.get? b = some o → h'.get? b = some o := fun b o n q =>
  k b o (F.cond b o q (fun hb => n (F.frf b hb)) (.inr n))
theorem Flown.hokh (F : Flown P w outer H s H' s' B e cls a0 dv) (k : B.StaysIn h') : HOk P w H' h' := fun a o q =>
  (F.hok a o q).stay (fun b u hb z => F.trk k b u (by
    rcases hb with rfl | hb
    · rw [q]; exact fun z => nomatch z
    · rw [hb]; exact fun z => nomatch z) z) (fun _ z => z) fun _ _ z => z
theorem Flown.go (F : Flown P w outer H s H' s' B e cls a0 dv) (x : Heap.FlyingW B outer e cls a0 h') (u : s'.heap.UpToSlots h') (dc : Dic h' e dv) : Flown P w outer H s H' { s' with heap := h' } B e cls a0 dv where
  os := F.os
  bare := F.bare
  un := F.unh x.1 u
  hok := F.hokh x.1
  fly := x
  cond := fun b o q hb hc => by
    have back : ∀ o', s'.heap.get? b = some o' → B.get? b = some o := fun o' q' => by
      have z := F.cond b o' q' hb hc
      have z' := x.1 b o' z
      have q2 : h'.get? b = some o := q
      rw [z'] at q2; cases q2
      exact z
    rcases id hc with ⟨o1, q1⟩ | n
    · obtain ⟨o2, q2⟩ := F.un.there b o1 q1 (by simp)
      exact back o2 q2
    · obtain ⟨o2, q2⟩ := F.hok.there n
      exact back o2 q2
  frf := F.frf
  dic := dc
end
def excD (e : Addr) (cls : Value) (dv : Option Addr) : HO := .ext fun h => ∃ oe ws, h.get? e = some oe ∧ oe.cls = cls ∧ oe.data = .fields ws ∧ oe.dict = dv ∧ ws[2]? = some Value.none
section
variable {X : Cx} {pins : List (Addr × Obj)} {σ : St} {H H' : Hp} {s s' : Shared} {B : Heap} {e : Addr} {cls a0 : Value} {dv : Option Addr}
end
section
variable {P : Program} {w : World} {K : PySem.W.Frag} {mg : Str → Option Value} {base : Heap} {N : List Str} {qual : Str} {scope : Scope} {f : Addr} {cd : Value} {A : Around} {outer : List Env} {s : Shared} {H : Hp} {E : XK}
  {pins : List (Addr × Obj)} {σ : St} {H1 : Hp} {s1 : Shared}
theorem cx_frames (I : Inv (cxOf (CXe P w) P w K mg base N qual scope f cd A outer s H E) pins σ H1 s1) : (A.deeper (envOfC qual scope s.heap.objs.size f cd)).frames = some (envOfC qual scope s.heap.objs.size f cd :: outer) := I.ok.frames
theorem xe_core {e : Addr} {ob : Obj} {ws : Array Value} {a0 : Value} (gf : (A.deeper (envOfC qual scope s.heap.objs.size f cd)).frames = some (envOfC qual scope s.heap.objs.size f cd :: outer)) (os : s1.os = s.os) (bare : AllBare s1.gens) (un1 : Un (frs outer) [] H H1 s.heap s1.heap) (hok : HOk P w H1 s1.heap)
    (fr0 : s1.heap.FunFrames base (envOfC qual scope s.heap.objs.size f cd :: outer)) (free1 : ∀ b ∈ frs (envOfC qual scope s.heap.objs.size f cd :: outer), H1 b = none) (ge : s1.heap.get? e = some ob) (od : ob.data = .fields ws) (w1 : ws[1]? = some .none) (w0 : ws[0]? = some a0) (w2 : ws[2]? = some Value.none)
    (en : s.heap.get? e = none) (eH : H1 e = none) (q : E ob.cls ob.dict H1) :
    wpAny (model P w) (A.deeper (envOfC qual scope s.heap.objs.size f cd)) (leaving (envOfC qual scope s.heap.objs.size f cd) (.ref e)) (fun _ s'' => CXe P w outer H s E (.ref e) s'') (fun e' s'' => CXe P w outer H s E e' s'') s1 := by
  have fsE : frs (envOfC qual scope s.heap.objs.size f cd :: outer) = s.heap.objs.size :: frs outer := rfl
  have hin : ∀ env ∈ (envOfC qual scope s.heap.objs.size f cd :: outer), ∀ b, env.frame = some b → b ∈ e :: frs (envOfC qual scope s.heap.objs.size f cd :: outer) := fun env he b hb => List.mem_cons_of_mem _ (List.mem_filterMap.mpr ⟨env, he, hb⟩)
  refine leaves_first (B := PySem.W.hideAll s1.heap (e :: frs (envOfC qual scope s.heap.objs.size f cd :: outer))) (L := s.heap.objs.size) gf rfl (PySem.W.funFrames_hide fr0 hin) (fun b o z => PySem.W.of_hideAll _ z) (PySem.W.hideAll_none _ List.mem_cons_self) ge od w1 w0 w2 fun h2 fl dc up => ?_
  have inB : ∀ b o, s1.heap.get? b = some o → b ≠ e → b ∉ frs (envOfC qual scope s.heap.objs.size f cd :: outer) → (PySem.W.hideAll s1.heap (e :: frs (envOfC qual scope s.heap.objs.size f cd :: outer))).get? b = some o := fun b o z n1 n => PySem.W.hideAll_get _ z fun m => by
    rcases List.mem_cons.mp m with y | y
    · exact n1 y
    · exact n y
  have olde : ∀ b o, s.heap.get? b = some o → b ≠ e := fun b o z y => by rw [y, en] at z; cases z
  have old : ∀ b o, s.heap.get? b = some o → b ∉ frs outer → b ∉ frs (envOfC qual scope s.heap.objs.size f cd :: outer) := fun b o z n hm => by
    rw [fsE] at hm
    rcases List.mem_cons.mp hm with rfl | hm
    · exact absurd (Heap.lt_size z) (Nat.lt_irrefl _)
    · exact n hm
  have slots : ∀ b o, s1.heap.get? b = some o → b ∈ frs outer → ∃ sl, h2.get? b = some { o with slots := sl } := fun b o z hb => by
    obtain ⟨_, o2, q2, nd⟩ := fr0.mem (b := b) (by show b ∈ frs _; rw [fsE]; exact List.mem_cons_of_mem _ hb)
    rw [z] at q2; cases q2
    exact up b o z nd
  have keepT : ∀ b o, H1 b ≠ none → s1.heap.get? b = some o → h2.get? b = some o := fun b o n z => fl.1 b o (inB b o z (fun y => n (y ▸ eH)) fun hm => n (free1 b hm))
  refine ⟨e, ob.cls, a0, ob.dict, H1, _, rfl, ⟨os, bare, ⟨fun b o z n hb hx' => ?_, fun b o z n hb hx' => ?_, un1.free, fun b o z hx' => ?_, un1.tups, un1.frzs, un1.tbls⟩, fun a o z => ?_, fl, fun b o z hb hc => ?_, fun b hb => ?_, dc⟩, q⟩
  · exact fl.1 b o (inB b o (un1.keep b o z n hb hx') (olde b o z) (old b o z hb))
  · obtain ⟨sl, z1⟩ := un1.slot b o z n hb hx'
    obtain ⟨sl', z2⟩ := slots b _ z1 hb
    exact ⟨sl', z2⟩
  · obtain ⟨o1, z1⟩ := un1.there b o z hx'
    by_cases hb : b ∈ frs outer
    · obtain ⟨sl', z2⟩ := slots b _ z1 hb
      exact ⟨_, z2⟩
    · exact ⟨o1, fl.1 b o1 (inB b o1 z1 (olde b o z) (old b o z hb))⟩
  · refine (hok a o z).stay (fun b u hb y => keepT b u ?_ y) (fun _ y => y) fun _ _ y => y
    rcases hb with rfl | hb
    · rw [z]; exact fun y => nomatch y
    · rw [hb]; exact fun y => nomatch y
  · have back : ∀ o', s1.heap.get? b = some o' → b ≠ e → b ∉ frs (envOfC qual scope s.heap.objs.size f cd :: outer) → (PySem.W.hideAll s1.heap (e :: frs (envOfC qual scope s.heap.objs.size f cd :: outer))).get? b = some o := fun o' y ne nb => by
      have y1 := inB b o' y ne nb
      have y2 := fl.1 b o' y1
      have z2 : h2.get? b = some o := z
      rw [y2] at z2; cases z2
      exact y1
    rcases hc with ⟨o1, z1⟩ | n
    · obtain ⟨o2, z2⟩ := un1.there b o1 z1 (by simp)
      exact back o2 z2 (olde b o1 z1) (old b o1 z1 hb)
    · obtain ⟨o2, z2⟩ := hok.there n
      exact back o2 z2 (fun y => n (y ▸ eH)) fun hm => n (free1 b hm)
  · exact free1 b (by rw [fsE]; exact List.mem_cons_of_mem _ hb)
theorem xe_raise {h' : Heap} {e : Addr} {cls : Value} {vs : List Value} (I : Inv (cxOf (CXe P w) P w K mg base N qual scope f cd A outer s H E) pins σ H1 s1) (hx : Heap.MadeExcOf s1.heap h' e cls vs) (q : E cls none H1) :
    (cxOf (CXe P w) P w K mg base N qual scope f cd A outer s H E).xe (.ref e) { s1 with heap := h' } := by
  have un1 : Un (frs outer) [] H H1 s.heap s1.heap := I.base
  obtain ⟨t, ge, _, _⟩ := hx.there
  have new : ∀ b o, s1.heap.get? b = some o → b ≠ e := fun b o z y => by rw [y, hx.new] at z; cases z
  have eH : H1 e = none := by
    cases z : H1 e with
    | none => rfl
    | some o => obtain ⟨u, y⟩ := I.hok.there (a := e) (by rw [z]; exact fun y => nomatch y); rw [hx.new] at y; cases y
  refine xe_core (s1 := { s1 with heap := h' }) (w0 := rfl) (cx_frames I) I.os I.bare ⟨fun b o z n hb hx' => hx.keeps _ _ (un1.keep b o z n hb hx'), fun b o z n hb hx' => ?_, un1.free, fun b o z hx' => ?_, un1.tups, un1.frzs, un1.tbls⟩ (I.hok.kept hx.keeps)
    ((show s1.heap.FunFrames base (envOfC qual scope s.heap.objs.size f cd :: outer) from I.stack).of_keeps fun b o z _ => ⟨o, hx.keeps b o z, rfl⟩) I.stkFree ge rfl rfl (w2 := rfl) ?_ eH q
  · obtain ⟨sl, y⟩ := un1.slot b o z n hb hx'
    exact ⟨sl, hx.keeps _ _ y⟩
  · obtain ⟨o1, y⟩ := un1.there b o z hx'
    exact ⟨o1, hx.keeps _ _ y⟩
  · cases z : s.heap.get? e with
    | none => rfl
    | some o => obtain ⟨o1, y⟩ := un1.there e o z (by simp); rw [hx.new] at y; cases y
theorem xe_pass {ev : Value} {s' : Shared} (I : Inv (cxOf (CXe P w) P w K mg base N qual scope f cd A outer s H E) pins σ H1 s1) (h : CXe P w (envOfC qual scope s.heap.objs.size f cd :: outer) H1 s1 E ev s') :
    (cxOf (CXe P w) P w K mg base N qual scope f cd A outer s H E).xe ev s' := by
  obtain ⟨e, cls, a0, dv, H', B, rfl, F, q⟩ := h
  show wpAny (model P w) (A.deeper (envOfC qual scope s.heap.objs.size f cd)) (leaving (envOfC qual scope s.heap.objs.size f cd) (.ref e)) (fun _ s'' => CXe P w outer H s E (.ref e) s'') (fun e' s'' => CXe P w outer H s E e' s'') s'
  have fsE : frs (envOfC qual scope s.heap.objs.size f cd :: outer) = s.heap.objs.size :: frs outer := rfl
  have un1 : Un (frs outer) [] H H1 s.heap s1.heap := I.base
  have old : ∀ b o, s.heap.get? b = some o → b ∉ frs outer → b ∉ frs (envOfC qual scope s.heap.objs.size f cd :: outer) := fun b o z n hm => by
    rw [fsE] at hm
    rcases List.mem_cons.mp hm with rfl | hm
    · exact absurd (Heap.lt_size z) (Nat.lt_irrefl _)
    · exact n hm
  refine leaves_next (L := s.heap.objs.size) (cx_frames I) rfl F.fly F.dic fun h2 fl dc up => ?_
  have un2 := F.unh fl.1 up
  have sub : ∀ b, b ∈ frs outer → b ∈ frs (envOfC qual scope s.heap.objs.size f cd :: outer) := fun b hb => by rw [fsE]; exact List.mem_cons_of_mem _ hb
  refine ⟨e, cls, a0, dv, H', B, rfl, ⟨F.os.trans I.os, F.bare, ⟨fun b o z n hb hx' => ?_, fun b o z n hb hx' => ?_, fun b o z n hx' => ?_, fun b o z hx' => ?_, fun b xs z => F.un.tups b xs (un1.tups b xs z), fun b o u z => F.un.frzs b o u (un1.frzs b o u z), fun b ps z => ?_⟩, F.hokh fl.1, fl, fun b o z hb hc => ?_, fun b hb => F.frf b (sub b hb), dc⟩, q⟩
  · exact un2.keep b o (un1.keep b o z n hb hx') (un1.free b o z n hx') (old b o z hb) hx'
  · obtain ⟨sl, z1⟩ := un1.slot b o z n hb hx'
    obtain ⟨sl', z2⟩ := un2.slot b _ z1 (un1.free b o z n hx') (sub b hb) hx'
    exact ⟨sl', z2⟩
  · obtain ⟨o1, z1⟩ := un1.there b o z hx'
    exact F.un.free b o1 z1 (un1.free b o z n hx') hx'
  · obtain ⟨o1, z1⟩ := un1.there b o z hx'
    exact un2.there b o1 z1 hx'
  · obtain ⟨m1, z1⟩ := un1.tbls b ps z
    obtain ⟨m2, z2⟩ := F.un.tbls b _ z1
    exact ⟨m1 ++ m2, by rw [z2, Array.append_assoc]⟩
  · rcases hc with ⟨o1, z1⟩ | n
    · obtain ⟨o2, z2⟩ := un1.there b o1 z1 (by simp)
      exact (F.go (h' := h2) ⟨fl.1, fl.2.1, (F.fly.2.2.1.of_keeps fun c oc yc nd => by obtain ⟨sl, y⟩ := up c oc yc nd; exact ⟨_, y, rfl⟩), fl.2.2.2⟩ up dc).cond b o z (old b o1 z1 hb) (.inl ⟨o2, z2⟩)
    · refine (F.go (h' := h2) ⟨fl.1, fl.2.1, (F.fly.2.2.1.of_keeps fun c oc yc nd => by obtain ⟨sl, y⟩ := up c oc yc nd; exact ⟨_, y, rfl⟩), fl.2.2.2⟩ up dc).cond b o z (fun hm => n (F.frf b hm)) (.inr n)
end
theorem passE0 {P : Program} {w : World} {X : Cx} : Passes (CXe P w) X E0 := fun _ _ _ _ _ _ _ ⟨_, _, _, _, _, _, _, _, h⟩ => h.elim
theorem pass_cx {P : Program} {w : World} {K : PySem.W.Frag} {mg : Str → Option Value} {base : Heap} {N : List Str} {qual : Str} {scope : Scope} {f : Addr} {cd : Value} {A : Around} {outer : List Env} {s : Shared} {H : Hp} {E : XK} :
    Passes (CXe P w) (cxOf (CXe P w) P w K mg base N qual scope f cd A outer s H E) E := fun _ _ _ _ _ _ I h => xe_pass I h
end L2
namespace L2
open PySem PySem.Spec PyProof.Rows
theorem exc_obj {K : PySem.W.Frag} {h : Heap} {C : Addr} {bmB : List Value} {newId : String} (kin : K.In h) (yes : PySem.W.excIn K C bmB newId = true) :
    ∃ bm N nm q bs hdct sn sub ab col dd k0 k1 k2 k3 k5 mN, h.get? C = some (excClassObj nm q C N bs bm hdct sn sub ab col dd k0 k1 k2 k3 k5 newId) ∧ h.Ns N mN ∧ mN "__init__" = none ∧ OwnTail h bmB bm := by
  unfold PySem.W.excIn at yes
  split at yes
  case h_2 => cases yes
  case h_1 dict cdat slots found =>
    split at yes
    case h_2 => cases yes
    case h_1 C0 bm0 a0 a1 a2 a3 nid a5 em eslots =>
      simp only [Bool.and_eq_true, beq_iff_eq, Bool.not_eq_true'] at yes
      obtain ⟨⟨⟨⟨⟨y1, y2⟩, y3⟩, y4⟩, y5⟩, y6⟩ := yes
      subst y1 y2
      obtain ⟨f1, f2, f3, f4, f5, f6, f7, f8, f9, f10, f11⟩ := cdat
      dsimp only at em y3 y5 y6
      subst em y3
      obtain ⟨sl⟩ := slots
      dsimp only at eslots
      subst eslots
      have Nn := Heap.Ns.of_isNs (PySem.W.isNs_of_in kin y5)
      exact ⟨bm0, f4, f1, f5, f2, f6, f7, f8, f9, f10, dict, a0, a1, a2, a3, a5, _, kin _ _ found, Nn, PySem.W.ns_none_of kin Nn y6, PySem.W.tail_of_in kin y4⟩
def Raises (X : Cx) (E : XK) : Prop := ∀ (pins : List (Addr × Obj)) (σ : St) (H1 : Hp) (s1 : Shared) (h' : Heap) (e : Addr) (cls : Value) (vs : List Value), Inv X pins σ H1 s1 → Heap.MadeExcOf s1.heap h' e cls vs → E cls none H1 → X.xe (.ref e) { s1 with heap := h' }
theorem raises_cx {P : Program} {w : World} {K : PySem.W.Frag} {mg : Str → Option Value} {base : Heap} {N : List Str} {qual : Str} {scope : Scope} {f : Addr} {cd : Value} {A : Around} {outer : List Env} {s : Shared} {H : Hp} {E : XK} :
    Raises (cxOf (CXe P w) P w K mg base N qual scope f cd A outer s H E) E := fun _ _ _ _ _ _ _ _ I hx q => xe_raise I hx q
def vmro : List Value := [.type "ValueError", .type "Exception", .type "BaseException", .type "object"]
def ExcC (K : PySem.W.Frag) (C : Addr) : Prop := PySem.W.excIn K C vmro "ValueError.__new__" = true
def tRaise (C : Addr) (E : XK) (t : TA) : TS := fun _ σ H => t σ H fun vs H1 => vs.length ≤ sizeLine ∧ E (.ref C) none H1
theorem ps_raise {X : Cx} {E : XK} {x : Str} {C : Addr} {e : Expr} {es : List Expr} {t : TA} {np cpos pos : Pos} (hr : Raises X E) (hc : X.calm = true) (hg : Gl X x) (hm : X.mg x = some (.ref C)) (hC : ExcC X.K C) (ha : PA X (e :: es) t)
    (hdb : (x == ("__debug__" : Str)) = false := by decide) (he : starEach (e :: es) X.env = (false, eval e X.env) :: starEach es X.env := by rfl) (hpl : (backTo cpos (starEach es X.env)).any (·.1) = false := by rfl) :
    PS X (.Raise (some (.Call (.Name x np) (e :: es) [] cpos)) none pos) (tRaise C E t) := by
  intro pins s σ H D I h
  obtain ⟨bm, N, nm, q, bs, hdct, sn, sub, ab, col, dd, k0, k1, k2, k3, k5, mN, gC, gN, gi, gT⟩ := exc_obj I.mod.kin hC
  refine wpAny_Raise_call_subU (C := C) (nm := nm) (q := q) (N := N) (bs := bs) (bm := bm) (hdct := hdct) (sn := sn) (sub := sub) (ab := ab) (col := col) (dd := dd) (k0 := k0) (k1 := k1) (k2 := k2) (k3 := k3) (k5 := k5)
    PySem.F.excBase_ValueError (by decide +kernel) PySem.F.excBase_ValueError (mN := mN) (gT.hasType PySem.F.excBase_ValueError.hasBase) (I.ok.hd hc)
    (by rw [he]; show (false || (backTo cpos (starEach es X.env)).any (·.1)) = false; rw [hpl]; rfl) gi (ld_glob I hg hm ⟨rfl, ?_⟩ hdb)
  have hq := ha cpos pins s σ H _ I h
  rw [he] at hq ⊢
  refine Calls.evalArgs_plain (thn hq fun us s1 ⟨vs, H1, I1, r, z, y⟩ => ⟨rfl, by rw [← r.length]; exact z, I1.bk _ _ gC, gN.keeps I1.bk, gT.keeps I1.bk, fun h' e' hx => ?_⟩)
  exact hr pins σ H1 s1 h' e' _ us I1 hx y
def tCallS (sp : Sp) (dvs : List V) (E : St → XK) (t : TA) : TE := fun σ H Q => t σ H fun vs H1 => sp (vs ++ dvs) H1 Q (E σ)
section
variable {X : Cx} {CX : CXT} {k : Nat} {f : Addr} {fd : FuncData} {ps : List Str} {sp : Sp} {dvs : List V} {ds : List Value} {E : St → XK} {x : Str} {p pos : Pos} {e : Expr} {es : List Expr} {t : TA}
end
abbrev Cx.tr (X : Cx) (pins : List (Addr × Obj)) (xe : Value → Shared → Prop) : Cx := { X with pn := X.pn ++ pins, xe := xe }
abbrev Cx.su (X : Cx) (e : Addr) : Cx := { X with A := X.A.mark (some (.ref e)), calm := false, xe := fun _ _ => False }
section
variable {X : Cx} {pins pins' : List (Addr × Obj)} {σ : St} {H : Hp} {s : Shared} {xe : Value → Shared → Prop} {e : Addr}
theorem Cx.Ok.tr (ok : X.Ok) : (X.tr pins xe).Ok :=
  ⟨ok.mod, ok.kind, ok.glob, ok.blt, ok.above, ok.inj, ok.has, ok.cab, ok.hd, ok.frames, ok.stk, ok.exf, ok.bs, ok.bsz, ok.noex, ok.exfs, ok.funs, ok.frf⟩
theorem Inv.tr (I : Inv X pins σ H s) : Inv (X.tr pins xe) [] σ H s := ⟨I.ok.tr, I.os, I.bare, I.base, I.loc, I.cell, I.free, I.freeC, fun p hp => I.pin p (by
    have z : p ∈ (X.pn ++ pins) ++ [] := hp
    rw [List.append_nil] at z
    exact z), I.hok, I.len⟩
theorem Cx.Ok.su (ok : X.Ok) : (X.su e).Ok :=
  ⟨ok.mod, ok.kind, ok.glob, ok.blt, ok.above, ok.inj, ok.has, ok.cab, fun z => absurd z Bool.false_ne_true, ok.frames, ok.stk, ok.exf, ok.bs, ok.bsz, ok.noex, ok.exfs, ok.funs, ok.frf⟩
theorem Inv.su (I : Inv X pins σ H s) : Inv (X.su e) pins σ H s := ⟨I.ok.su, I.os, I.bare, I.base, I.loc, I.cell, I.free, I.freeC, I.pin, I.hok, I.len⟩
end
abbrev TH := Value → Option Addr → Ends → St → Hp → Prop
def Ends.gone (D : Ends) (i : Nat) : Ends := ⟨fun σ H => D.nx (σ.set i none) H, D.rt, fun σ H => D.bk (σ.set i none) H, fun σ H => D.ct (σ.set i none) H⟩
def tH (K : PySem.W.Frag) (c : Value) (i : Nat) (ts : TS) (th : TH) : TH := fun cls dv D σ H =>
  (PySem.W.exmOne K cls c = some true ∧ ∀ e, H e = none → ts (D.gone i) (σ.set i (some (.ref e))) (upd H e (excD e cls dv))) ∨ (PySem.W.exmOne K cls c = some false ∧ th cls dv D σ H)
def tHno : TH := fun _ _ _ _ _ => False
def tTry (tb : (St → XK) → TS) (th : TH) : TS := fun D σ H => tb (fun σ' cls dv H' => th cls dv D σ' H') D σ H
end L2
namespace L2
open PySem PySem.Spec PyProof.Rows PySem.Builtin PySem.Builtin.ObjectAttr PySem.Builtin.Getset_descriptor PySem.W
structure XCls (K : Frag) (C : Addr) : Prop where
  ga : findIn K (.ref C) "__getattribute__" = some (some (.builtin "BaseException.__getattribute__"))
  gt : findIn K (.ref C) "__getattr__" = some none
  be : mroIn K C (.type "BaseException") = some true
  ob : mroIn K C (.type "object") = some true
  cl : findIn K (.ref C) "__class__" = some (some (.builtin "object.__class__"))
  gs : specialIn K (.builtin "object.__class__") "__get__" = some (some (.builtin "getset_descriptor.__get__"))
  tk : takesIn K (.builtin "object.__class__") = some true
  is : (clsIn K C).isSome = true
section
variable {prog : Program} {w : World} {A : Around} {E : Value → Shared → Prop} {s : Shared} {K : Frag} {x C : Addr} {ox : Obj} {od : Option Obj} {name : Str}
theorem exc_check {nameV : Value} {Q : Unit → Shared → Prop} (kin : K.In s.heap) (L : ∀ M : Model, Looks M s.heap (typeOf (.ref x)) (.ref C)) (c : XCls K C) (h : Q () s) : wpAny (model prog w) A (checkBuiltinCall "BaseException.__getattribute__" ⟨[.ref x, nameV], []⟩) Q E s := by
  obtain ⟨hh, g, d, t, os⟩ := s
  have hk : builtinKind "BaseException.__getattribute__" = some .slot := by decide +kernel
  have hsplit : splitId "BaseException.__getattribute__" = some ("BaseException", "__getattribute__") := by decide +kernel
  have ha := F.args_bexc_ga (.ref x) nameV
  have L0 := L (model prog w)
  have L1 : Looks (model prog w) hh (isInstance (.ref x) (.type "BaseException")) true := L0.andThen (looks_mroIn kin c.be)
  simp only [checkBuiltinCall, hk, hsplit]
  refine wpAny_bind (L1.at ?_)
  rw [if_neg (by decide)]
  exact wpAny_of_eq ha h
theorem exc_by {tk : Tok} {fill expr : Bool} {Q : Value → Shared → Prop} (kin : K.In s.heap) (L : ∀ M : Model, Looks M s.heap (typeOf (.ref x)) (.ref C)) (c : XCls K C)
    (h : wpAny (model prog w) A.in1 (Builtin.«object.__getattribute__» ⟨[.ref x, .str name tk], []⟩) (fun fin s' => match fin with | .done (.ret v) => handedIn v = true ∧ Q v s' | _ => False) (fun _ _ => False) s) :
    wpAny (model prog w) A (getAttrBy (.ref x) (.str name tk) fill expr) Q E s := by
  obtain ⟨hh, g, d, t, os⟩ := s
  have L0 := L (model prog w)
  have L1 := looks_findIn (M := model prog w) kin c.ga
  have L2 := looks_findIn (M := model prog w) kin c.gt
  unfold getAttrBy
  refine wpAny_holding (wpAny_bind (L0.at (wpAny_bind (L1.at ?_))))
  show wpAny _ _ (getAttrByItsOwn _ _ _ _ _ _) _ _ _
  unfold getAttrByItsOwn
  refine wpAny_bind ?_
  show wpAny _ _ (typeLookup (.ref C) "__getattr__") _ _ _
  refine L2.at ?_
  refine wpAny_bind (wpAny_attempt (wpAny_holding ?_))
  have e1 : callGetattribute (.ref x) (.str name tk) (.builtin "BaseException.__getattribute__") expr = boundAndCalled (.builtin "BaseException.__getattribute__") (.ref x) (.str name tk) := by
    unfold callGetattribute
    cases expr <;> rfl
  rw [e1]
  unfold boundAndCalled
  refine wpAny_bind (wpAny_of_eq (PySem.F.attr_ValueError.ga.bind _) ?_)
  refine wpAny_call (codeAny_call_builtin PySem.F.attr_ValueError.ga.plain F.entry_bexc_ga (exc_check (nameV := .str name tk) kin L c ?_))
  refine wpAny_mono h (fun fin s' z => ?_) fun _ _ z => False.elim z
  rcases fin with (_ | _ | _ | _) | _ <;> first | exact z.elim | skip
  exact handed_on z.1 z.2
theorem exc_find_cls {M : Model} {h : Heap} (kin : K.In h) (c : XCls K C) : Looks M h (find (.ref x) (.ref C) "__class__") (.bind (.builtin "getset_descriptor.__get__") (.builtin "object.__class__")) :=
  (looks_findIn kin c.cl).andThen ((show Looks M h (getOf (some (.builtin "object.__class__"))) (some (.builtin "getset_descriptor.__get__")) from looks_specialIn kin c.gs).andThen
    ((show Looks M h (dataDescriptor? (some (.builtin "object.__class__")) (some (.builtin "getset_descriptor.__get__"))) (some (_, _)) from (looks_takesIn kin c.tk).andThen .now).andThen (Looks.tag .now)))
theorem exc_cls_get {tp : Value} {R : Result → Shared → Prop} (kin : K.In s.heap) (L : ∀ M : Model, Looks M s.heap (typeOf (.ref x)) (.ref C)) (c : XCls K C) (q : R (.ok (.ret (.ref C))) s) :
    codeAny (model prog w) A (.call (.builtin "getset_descriptor.__get__") ⟨[.builtin "object.__class__", .ref x, tp], []⟩) R s := by
  obtain ⟨hh, g, dr, t, os⟩ := s
  have T0 := L (model prog w)
  have T1 := looks_mroIn (M := model prog w) kin c.ob
  refine codeAny_call_builtin KF.slot_gs.plain KF.entry_gs (KF.slot_gs.check _ _ _ _ _ _ _ _ KF.type_class (KF.args_gs _ _ _) ?_)
  unfold Builtin.«getset_descriptor.__get__» descrGet
  rw [dga_obj]
  refine wpAny_bind (wpAny_pure ?_)
  unfold descrGetter
  unfold descrCheckInstance descrNameAndClass isInstance
  simp only [KF.owner_class]
  repeat lk
  refine And.intro (Code.quiet_builtin _ (by decide +kernel)) (codeAny_builtin KF.entry_class ?_)
  unfold Builtin.«object.__class__»
  unfold shownTypeOf
  repeat lk
  exact q
theorem exc_ca {Q : Option Value → Shared → Prop} (kin : K.In s.heap) (L : ∀ M : Model, Looks M s.heap (typeOf (.ref x)) (.ref C)) (c : XCls K C) (q : Q (some (.ref C)) { s with toks := s.toks + 1 }) :
    wpAny (model prog w) A (getAttr? (.ref x) "__class__") Q E s := by
  unfold getAttr? getAttrBy?
  refine wpAny_bind (wpAny_mkText (wpAny_bind (wpAny_attempt ?_)))
  refine exc_by (s := { s with toks := s.toks + 1 }) kin L c ?_
  obtain ⟨hh, g, dr, t, os⟩ := s
  have T0 := L (model prog w)
  have T1 := exc_find_cls (x := x) (M := model prog w) kin c
  unfold Builtin.«object.__getattribute__»
  refine wpAny_bind (wpAny_pure (wpAny_bind (wpAny_pure (wpAny_bind (T0.at (wpAny_bind (T1.at ?_)))))))
  show wpAny _ _ (bindTo _ _ _ _) _ _ _
  unfold bindTo
  dsimp only
  refine wpAny_bind (wpAny_holding (wpAny_call (exc_cls_get (s := ⟨hh, g, dr, t + 1, os⟩) kin L c ?_)))
  exact wpAny_pure ⟨rfl, wpAny_pure q⟩
end
def excIs (e : Addr) (cls : Value) (h : Heap) : Prop := ∃ oe ws, h.get? e = some oe ∧ oe.cls = cls ∧ oe.data = .fields ws
theorem excIs.ty {M : Model} {e : Addr} {cls : Value} {h : Heap} (p : excIs e cls h) : Looks M h (typeOf (.ref e)) cls := by
  obtain ⟨oe, ws, q, hc, _⟩ := p
  subst hc
  exact (Looks.ld q).andThen .now
theorem kitx_exc {K : Frag} {e C : Addr} (c : XCls K C) : KitX K (.ref e) (.ref C) (excIs e (.ref C)) where
  ty := fun _ _ _ p => p.ty
  it := fun _ _ kin _ => by
    have z := c.is
    unfold clsIn at z
    split at z
    · rename_i ho
      intro A' Q' E' s' k q
      unfold isType loadHead
      exact wpAny_bind (wpAny_loadPart (k _ _ (kin _ _ ho)) (wpAny_pure q))
    · cases z
  ne := fun h tp dd its n sl kin htp => by
    refine Bool.eq_false_iff.mpr fun q => ?_
    have z := c.is
    cases Value.ref.inj (beq_iff_eq.mp q)
    unfold clsIn at z
    split at z
    · rename_i ho
      cases (kin _ _ ho).symm.trans htp
    · cases z
  ca := fun kin p k => exc_ca kin (fun M => p.ty) c k
inductive TyX (K : Frag) (H : Hp) : V → Value → Prop where
  | of {x : V} {t : Value} (h : TyOf K H x t) : TyX K H x t
  | exc {a C : Addr} {dv : Option Addr} (e : H a = some (excD a (.ref C) dv)) (c : XCls K C) : TyX K H (.ref a) (.ref C)
def clsV : V → Option Value
  | .ref C => some (.ref C)
  | .ty n => some (.type n)
  | _ => none
def rIsi (K : Frag) : List V → Hp → VK → Prop := fun xs H Q => ∃ x c cv t b, xs = [x, c] ∧ clsV c = some cv ∧ TyX K H x t ∧ kitOne K t cv = some b ∧ Q (.bl b) H
theorem call_isi {X : Cx} : CallR X (.builtin "isinstance") (rIsi X.K) := by
  intro pins s σ H xs us Q I r h
  obtain ⟨x, c, cv, t, b, rfl, hc, ty, hk, q⟩ := h
  obtain ⟨u, u', rfl, r1, r2⟩ := vals2 r
  have e2 : u' = cv := by
    cases c with
    | ref C => cases hc; exact r2
    | ty n => cases hc; exact r2
    | _ => cases hc
  subst e2
  have fin : ∀ tk, EP X pins σ Q (.bool b) { s with toks := tk } := fun tk => ⟨.bl b, H, I.tok tk, rfl, q⟩
  cases ty with
  | of z => exact isinst_ok I r1 z hk fin
  | @exc a C dv ea c =>
    cases (show u = Value.ref a from r1)
    obtain ⟨⟨oe, ws, p1, p2, p3, _⟩, _, _⟩ := (show ObjOk X.prog X.w H s.heap a (excD a (.ref C) dv) from I.hok a _ ea)
    exact kia_one (kitx_exc c) I.kIn ⟨oe, ws, p1, p2, p3⟩ hk (fun z => nomatch z) fin
end L2
namespace L2
open PySem PySem.Spec PyProof.Rows
structure RoomU (k : Nat) (A : Around) : Prop where
  dp : A.depth + 3 * k + 5 < recursionLimit
  un : A.units + 16 * k + 200 < cLine
theorem RoomU.mono {j k : Nat} {A : Around} (r : RoomU k A) (h : j ≤ k) : RoomU j A := ⟨by have := r.dp; omega, by have := r.un; omega⟩
theorem RoomU.deeper {k : Nat} {A : Around} (r : RoomU (k + 1) A) (env : Env) : RoomU k (A.deeper env) :=
  ⟨by have := r.dp; show A.depth + 1 + 3 * k + 5 < _; omega, by have := r.un; show A.units + 3 + 16 * k + 200 < _; omega⟩
theorem RoomU.depth {k : Nat} {A : Around} (r : RoomU k A) : A.depth < recursionLimit := by have := r.dp; omega
theorem Room.su {k : Nat} {X : Cx} {e : Addr} (r : Room k X.A) : RoomU k (X.su e).A := ⟨r.dp, r.un⟩
def cxU (CX : CXT) (P : Program) (w : World) (K : PySem.W.Frag) (mg : Str → Option Value) (base : Heap) (N : List Str) (qual : Str) (scope : Scope) (f : Addr) (cd : Value) (A : Around) (outer : List Env) (s : Shared) (H : Hp) (E : XK) : Cx :=
  { cxOf CX P w K mg base N qual scope f cd A outer s H E with calm := false }
section
variable {X : Cx} {CX : CXT} {k : Nat} {f : Addr} {fd : FuncData} {ps : List Str} {sp : Sp} {dvs : List V} {ds : List Value} {E : XK} {x : Str} {p pos : Pos} {e : Expr} {es : List Expr} {t : TA}
end
section
variable {P : Program} {w : World} {K : PySem.W.Frag} {mg : Str → Option Value} {base : Heap} {x qual : Str} {st : Stmt} {f : Addr} {fd : FuncData} {N ps : List Str} {k : Nat} {sp : Sp}
theorem Fun.okE (F : Fun K x qual st f fd) (S : FnScope N ps (defScope st)) (len : ∀ vs H Q E, sp vs H Q E → vs.length = ps.length)
    (hbody : ∀ (cdv : Value) (A : Around) (outer : List Env) (s : Shared) (H : Hp) (vs : List V) (Q : VK) (E : XK), Room k (A.deeper (envOfC qual (defScope st) s.heap.objs.size f cdv)) → sp vs H Q E →
      ∃ t, PSs (cxOf (CXe P w) P w K mg base N qual (defScope st) f cdv A outer s H E).nox (defBody st) t ∧ t { nx := fun _ H' => Q .non H', rt := Q } (start N vs) H) : FnOk P w K mg base (CXe P w) (k + 1) f fd ps sp := by
  obtain ⟨oc, od, kV, doc, pm, an, cdv, ct, osl, rfl, lk, hcd⟩ := F.ex
  refine fn_of lk hcd S len fun A outer s H vs Q E hr hsp => ?_
  obtain ⟨t, h, q⟩ := hbody cdv A outer s H vs Q E hr hsp
  exact ⟨t, h.nox, q⟩
theorem Fun.okX (F : Fun K x qual st f fd) (S : FnScope N ps (defScope st)) (len : ∀ vs H Q E, sp vs H Q E → vs.length = ps.length)
    (hbody : ∀ (cdv : Value) (A : Around) (outer : List Env) (s : Shared) (H : Hp) (vs : List V) (Q : VK) (E : XK), Room k (A.deeper (envOfC qual (defScope st) s.heap.objs.size f cdv)) → sp vs H Q E →
      ∃ t, PSs (cxOf (CXe P w) P w K mg base N qual (defScope st) f cdv A outer s H E) (defBody st) t ∧ t { nx := fun _ H' => Q .non H', rt := Q } (start N vs) H) : FnOk P w K mg base (CXe P w) (k + 1) f fd ps sp := by
  obtain ⟨oc, od, kV, doc, pm, an, cdv, ct, osl, rfl, lk, hcd⟩ := F.ex
  exact fn_of lk hcd S len fun A outer s H vs Q E hr hsp => hbody cdv A outer s H vs Q E hr hsp
end
def Bd (n : Nat) (i : Int) : Prop := i.natAbs < 2 ^ n
theorem Bd.mono {m n : Nat} {i : Int} (h : Bd m i) (l : m ≤ n) : Bd n i := Nat.lt_of_lt_of_le h (Nat.pow_le_pow_right (by decide) l)
theorem Bd.mul {m n : Nat} {i j : Int} (h : Bd m i) (k : Bd n j) : Bd (m + n) (i * j) := by
  unfold Bd at *
  rw [Int.natAbs_mul, Nat.pow_add]
  exact Nat.mul_lt_mul'' h k
theorem Bd.add {n : Nat} {i j : Int} (h : Bd n i) (k : Bd n j) : Bd (n + 1) (i + j) := by
  unfold Bd at *
  have := Int.natAbs_add_le i j
  rw [Nat.pow_succ]
  omega
theorem Bd.neg {n : Nat} {i : Int} (h : Bd n i) : Bd n (-i) := by unfold Bd at *; rw [Int.natAbs_neg]; exact h
theorem Bd.sub {n : Nat} {i j : Int} (h : Bd n i) (k : Bd n j) : Bd (n + 1) (i - j) := by rw [Int.sub_eq_add_neg]; exact h.add k.neg
theorem Bd.le {n : Nat} {i j : Int} (h : Bd n i) (k : j.natAbs ≤ i.natAbs) : Bd n j := Nat.lt_of_le_of_lt k h
theorem Bd.log {n : Nat} {i : Int} (h : Bd n i) (z : i ≠ 0) : i.natAbs.log2 < n := (Nat.log2_lt (by omega)).mpr h
theorem Bd.bits {n : Nat} {i : Int} (h : Bd n i) : Builtin.Int.intBits i ≤ n := PySem.intBits_le_iff.mpr h
def CDivB (_ j : Int) : Prop := j ≠ 0 ∧ Bd 9000 j
def CMulB (i j : Int) : Prop := Bd 100000 i ∧ Bd 100000 j
theorem op_fdivB {X : Cx} : OpR X (binaryOp .FloorDiv) (rI CDivB fun i j => .int (i.fdiv j)) := opI fun _ _ _ _ _ _ _ hc q => floordiv_int hc.1 q (.inl (PyProof.noPylong_of_log2 (hc.2.log hc.1)))
theorem op_mulB {X : Cx} : OpR X (binaryOp .Mult) (rI CMulB fun i j => .int (i * j)) := opI fun _ _ _ _ _ _ _ hc q =>
  mul_int q (IntMulOk.of_bits (Nat.le_trans hc.1.bits (by decide)) (Nat.le_trans hc.2.bits (by decide)))
end L2
namespace L2
open PySem PySem.Spec PyProof.Rows
section
variable {prog : Program} {w : World} {A : Around} {R : Result → Shared → Prop} {s : Shared}
theorem comp_loop {elt target iter : Expr} {scope : Scope} {pos : Pos} {it acc : Value} {env : Env} (J : Nat → Shared → Prop)
    (turn : ∀ n s, J n s → wpAny (model prog w) A (pyNext it) (fun r s1 => match r with
      | none => R (.ok .next) s1
      | some v => wpAny (model prog w) A (letOwnedTupleGo target it v) (fun _ s2 => wpAny (model prog w) A (assign target env v) (fun _ s3 => wpAny (model prog w) A (eval elt env) (fun x s4 =>
          wpAny (model prog w) A (call (.builtin "list.append") [acc, x]) (fun _ s5 => ∃ m, m < n ∧ J m s5) (fun _ _ => False) s4) (fun _ _ => False) s3) (fun _ _ => False) s2) (fun _ _ => False) s1) (fun _ _ => False) s)
    (n : Nat) (h : J n s) : codeAny (model prog w) A (.compLoop (.ListComp elt [⟨target, iter, [], 0⟩] scope pos) 0 it acc env) R s := by
  refine codeAny_loop rfl J (fun n s hJ => ?_) n h
  show wpAny _ A ((compTurn (.ListComp elt [⟨target, iter, [], 0⟩] scope pos) 0 it acc env).onRaise (fun x => do noteFrame x env; theTreesLotGoes x)) _ _ s
  refine wpAny_noted ?_
  rw [compTurn_list1]
  have no : ∀ {P : Value → Shared → Prop} (a : Value) (b : Shared), (fun _ _ => False : Value → Shared → Prop) a b → P a b := fun _ _ z => False.elim z
  refine wpAny_bind (wpAny_standAt (wpAny_bind (wpAny_mono (turn n s hJ) (fun r s1 h1 => ?_) no)))
  cases r with
  | none => exact wpAny_pure h1
  | some v =>
    refine wpAny_bind (wpAny_mono h1 (fun _ s2 h2 => wpAny_bind (wpAny_mono h2 (fun _ s3 h3 => ?_) no)) no)
    exact wpAny_bind (wpAny_bind (wpAny_mono h3 (fun x s4 h4 => wpAny_bind (wpAny_mono h4 (fun _ s5 h5 => wpAny_pure (wpAny_pure ⟨rfl, h5⟩)) no)) no))
end
abbrev Cx.cp (X : Cx) (Nc : List Str) (scope : Scope) (cl : List (Str × Addr)) (C : Addr) (s₀ : Shared) (H₀ : Hp) (ex : List Addr) (pn : List (Addr × Obj)) : Cx :=
  { X with N := Nc, s₀ := s₀, H₀ := H₀, env := compEnvC scope cl C X.env, outer := X.stack, ex := ex, fn := fun _ => false, pn := pn, xe := fun _ _ => False }
def cσ (js : List (Option Nat)) (σ : St) : St := js.map fun o => o.bind fun j => (σ[j]?).join
def tComp (js : List (Option Nat)) (wi : TI) (g : TG) (te : TE) : TE := fun σ H Q => wi σ H fun J H1 => ∀ D, H1 D = none → ∃ W : Nat → Nat → List V → St → Hp → Prop, (∃ m, W 0 m [] (cσ js σ) (upd H1 D (.lst []))) ∧
  ∀ i m ys σc H, W i m ys σc H → (H D = some (.lst ys) ∧ J.stop i H ∧ Q (.ref D) H) ∨ (J.go i H ∧ ∀ x H', J.yld i H x H' → g x σc H' fun σ2 H2 => te σ2 H2 fun y H3 => H3 D = some (.lst ys) ∧ ys.length < sizeLine ∧ ∃ m', m' < m ∧ W (i + 1) m' (ys ++ [y]) σ2 (upd H3 D (.lst (ys ++ [y]))))
def PCo (X : Cx) (e : Expr) (scope : Scope) (iter : Expr) (t : TE) : Prop :=
  ∀ (pos : Pos) (use : Option (Value → Sem Unit)) (QQ : Value → Shared → Prop) (pins : List (Addr × Obj)) (s : Shared) (σ : St) (H : Hp) (Q : VK), Inv X pins σ H s → t σ H Q →
    (∀ (D C : Addr) (H5 : Hp) (s6 : Shared) (mC : Str → Option Value), Inv X pins σ H5 s6 → s6.heap.Ns C mC → FpOk X pins H5 C → Q (.ref D) H5 → compPost (model X.prog X.w) X.A X.xe use QQ (.ref D) C (.ok .next) s6) →
    wpAny (model X.prog X.w) X.A (comprehension e scope X.env pos (newList []) false (eval iter X.env) use) QQ X.xe s
theorem PCo.of {X : Cx} {e : Expr} {scope : Scope} {iter : Expr} {t t' : TE} (h : PCo X e scope iter t') (k : ∀ σ H Q, t σ H Q → t' σ H Q) : PCo X e scope iter t := fun pos use QQ pins s σ H Q I q fin => h pos use QQ pins s σ H Q I (k σ H Q q) fin
theorem PCo.pe {X : Cx} {elt iter tg : Expr} {scope : Scope} {pos : Pos} {t : TE} (h : PCo X (.ListComp elt [⟨tg, iter, [], 0⟩] scope pos) scope iter t) : PE X (.ListComp elt [⟨tg, iter, [], 0⟩] scope pos) t := by
  intro pins s σ H Q I q
  rw [eval_ListComp]
  exact h _ none (EP X pins σ Q) pins s σ H Q I q fun D C H5 s6 mC I7 hn fp qn => ⟨mC, hn, fun h8 sb => ⟨.ref D, H5, I7.turned (t' := s6.toks) (fun b o hb z => (sb.2 b hb).trans z) fp.1 fp.2.1 fp.2.2.2.1 fp.2.2.2.2.1 fp.2.2.2.2.2, rfl, qn⟩⟩
theorem PCo.ps {X : Cx} {elt iter tg : Expr} {scope : Scope} {cpos pos pos' : Pos} {t : TE} {i : Nat} {x : Str} (h : PCo X (.ListComp elt [⟨tg, iter, [], 0⟩] scope cpos) scope iter t) (hN : X.N.Nodup) (hi : X.N[i]? = some x) (hx : Loc X.env.scope x)
    (hsw : swapsWith (.ListComp elt [⟨tg, iter, [], 0⟩] scope cpos) (some (.Name x pos')) pos.line X.env = pure true := by rfl)
    (hf : X.fn x = true ∨ X.env.scope.names.lookup x = some .local := by first | exact .inl rfl | exact .inr rfl | assumption) : PS X (.Assign [.Name x pos'] (.ListComp elt [⟨tg, iter, [], 0⟩] scope cpos) pos) (tAsg t (gName i)) := by
  intro pins s σ H D0 I q
  rw [exec_Assign_Name_used _ _ _ _ hsw]
  refine wpAny_bind (wpAny_standAt (wpAny_bind ?_))
  show wpAny _ X.A (do let _ ← comprehension (.ListComp elt [⟨tg, iter, [], 0⟩] scope cpos) scope X.env _ (newList []) false (eval iter X.env) (some (assign (.Name x pos') X.env))) _ _ s
  refine wpAny_bind (wpAny_mono (h _ (some (assign (.Name x pos') X.env)) (fun _ s' => SP X pins D0 .next s') pins s σ H _ I q ?_) (fun _ s' hq => wpAny_pure (wpAny_pure hq)) fun _ _ e => e)
  intro D C H5 s6 mC I7 hn fp qn
  refine wpAny_assign_Name (store_ok2 (v := .ref D) I7 hN hi hx rfl (fun s8 I8 sb8 => ?_) hf)
  obtain ⟨a, sb, ha⟩ := sb8
  have hne : C ≠ a := by
    rcases ha with rfl | ha
    · exact fp.2.1
    · exact fun z => fp.2.2.2.2.1 _ _ ha z.symm
  refine ⟨mC, hn.sameBut sb hne, fun h9 sb9 => ⟨_, H5, ?_, qn⟩⟩
  exact I8.turned (t' := s8.toks) (fun b o hb z => (sb9.2 b hb).trans z) fp.1 fp.2.1 fp.2.2.2.1 fp.2.2.2.2.1 fp.2.2.2.2.2
theorem pe_comp {X : Cx} {elt iter tg : Expr} {scope : Scope} {cl : List (Str × Addr)} {Nc : List Str} {js : List (Option Nat)} {wi : TI} {g : TG} {te : TE} {pos : Pos} (hc : X.calm = true) (hi : PI X tg iter wi)
    (hg : ∀ C s₀ H₀ ex pn, PG (X.cp Nc scope cl C s₀ H₀ ex pn) tg g) (he : ∀ C s₀ H₀ ex pn, PE (X.cp Nc scope cl C s₀ H₀ ex pn) elt te)
    (hlen : js.length = Nc.length) (hcl1 : ∀ y c, cl.lookup y = some c → X.env.cells.lookup y = some c) (hcl2 : ∀ y, ((relabel scope X.env).names.lookup y = some .cell ∨ (relabel scope X.env).names.lookup y = some .free) → ∃ c, cl.lookup y = some c)
    (hjs : ∀ (i : Nat) (y : Str) (j : Nat), Nc[i]? = some y → js[i]? = some (some j) → X.N[j]? = some y ∧ Vis X.env.scope y ∧ X.env.kindOf y ≠ some .local ∧ ((relabel scope X.env).names.lookup y = some .cell ∨ (relabel scope X.env).names.lookup y = some .free) ∧ ∀ c, X.env.cells.lookup y = some c → cl.lookup y = some c)
    (hclos : closureFor scope X.env = pure cl) (hcell : ∀ y ∈ scope.names, y.2 ≠ .cell) (hkind : scope.kind = .function) (hnames : ∀ y ∈ scope.names, y.2 = .local → scope.names.lookup y.1 = some .local)
    (hs : ∀ x, foldedSetIterable iter X.env x = pure x := by intro _; rfl) : PCo X (.ListComp elt [⟨tg, iter, [], 0⟩] scope pos) scope iter (tComp js wi g te) := by
  intro pos0 use QQ pins s σ H Q I h fin
  refine wpAny_comprehension_free (use := use) rfl hs hclos hkind hnames (thn (hi pins s σ H _ I h) fun v s1 h1 => thn h1 fun itv s2 h2 => ?_)
  obtain ⟨it, fp, tn, J, H2, rfl, I2, T, st2, f2, R⟩ := h2
  refine wpAny_newObj_type (wpAny_newFunctionEnv hcell (by intro y hy; simp at hy) (fun h1 hns hsb => ?_) hkind)
  dsimp only at hns hsb ⊢
  have hf : H2 s2.heap.objs.size = none := I2.hok.fresh (Nat.le_refl _)
  obtain ⟨W, ⟨m0, w0⟩, turn⟩ := R s2.heap.objs.size hf
  -- D: the list; C: the block's names
  generalize eD : s2.heap.objs.size = D at *
  have I3 : Inv X pins σ (upd H2 D (.lst [])) { s2 with heap := s2.heap.push { cls := .type "list", dict := none, data := .seq ([] : List Value).toArray } } :=
    I2.laid (t' := s2.toks) (fun b u e => Heap.get?_push_of_some _ e) (by rw [eD]; exact Nat.le_refl _) ⟨Nat.zero_le _, [], 0, .nil, by rw [← eD]; exact Heap.get?_push_size _ rfl⟩
  generalize e3 : ({ s2 with heap := s2.heap.push { cls := .type "list", dict := none, data := .seq ([] : List Value).toArray } } : Shared) = s3 at I3
  have hp3 : s2.heap.push { cls := .type "list", dict := none, data := .seq ([] : List Value).toArray } = s3.heap := by rw [← e3]
  rw [hp3] at hns hsb ⊢
  generalize eC : s3.heap.objs.size = C at *
  have old : ∀ b o, s3.heap.get? b = some o → h1.get? b = some o := fun b o z => hsb.extBut b o (by rw [← eC]; exact Nat.ne_of_lt (Heap.lt_size z)) (Heap.get?_push_of_some _ z)
  have fpo : ∀ b ∈ fp, b < D := fun b hb => by
    obtain ⟨o, z, _⟩ := T.obj _ _ st2 b hb
    rw [← eD]; exact Heap.lt_size z
  have eCD : C = D + 1 := by rw [← eC, ← hp3, Heap.size_push, eD]
  have f3 : ∀ b ∈ fp, FpOk X pins (upd H2 D (.lst [])) b := fun b hb => ⟨by rw [upd_ne (Nat.ne_of_lt (fpo b hb))]; exact (f2 b hb).1, (f2 b hb).2⟩
  have okC : (X.cp Nc scope cl C s3 (upd H2 D (.lst [])) fp (X.pn ++ pins)).Ok := by
    have ok := I3.ok
    refine ⟨ok.mod, hkind, ok.glob, ok.blt, by rw [eC]; exact Nat.le_refl _, fun x y c a b => ok.inj x y c (hcl1 x c a) (hcl1 y c b), fun x hx => hcl2 x hx, fun x c z => absurd z Bool.false_ne_true, ok.hd, ok.frames, .inl rfl, fun b hb => ?_, fun b o z => I3.bs b o z, Nat.le_trans ok.bsz I3.sz, fun b o z hb => ?_, fun b hb hm => ?_, I3.stack, I3.stkFree⟩
    · exact ⟨by rw [eCD]; exact Nat.ne_of_lt (Nat.lt_succ_of_lt (fpo b hb)), fun x c z => (f3 b hb).2.2.2.2.1 x c (hcl1 x c z)⟩
    · rcases (f3 b hb).2.2.2.1 with y | y
      · exact ok.noex b o z y
      · exact absurd (Nat.lt_of_lt_of_le (Heap.lt_size z) (Nat.le_trans ok.bsz y)) (Nat.lt_irrefl _)
    · rcases List.mem_cons.mp (I3.stkSub b hm) with y | y
      · exact (f3 b hb).2.1 y
      · exact (f3 b hb).2.2.1 y
  have I4 : Inv (X.cp Nc scope cl C s3 (upd H2 D (.lst [])) fp (X.pn ++ pins)) [] (cσ js σ) (upd H2 D (.lst [])) { s2 with heap := h1, toks := s2.toks + ([] : List (Str × Value)).length } := by
    have os3 : s2.os = s3.os := by rw [← e3]
    have fC : upd H2 D (.lst []) C = none := I3.hok.fresh (by rw [eC]; exact Nat.le_refl _)
    refine ⟨okC, os3, I2.bare, Un.kept old, ⟨_, hns, fun i y v e1 e2 e3' => ?_⟩, fun y c z => ?_, fC, fun y c z => I3.freeC y c (hcl1 y c z), fun p hp => ?_, I3.hok.kept old, by rw [cσ, List.length_map]; exact hlen⟩
    · unfold cσ at e2
      rw [List.getElem?_map] at e2
      cases ej : js[i]? with
      | none => rw [ej] at e2; cases e2
      | some oj =>
        rw [ej] at e2
        cases oj with
        | none => cases e2
        | some j =>
          obtain ⟨a1, a2, a3, a4, a5⟩ := hjs i y j e1 ej
          have e2' : (σ[j]?).join = some v := Option.some.inj e2
          have e4 : σ[j]? = some (some v) := by
            cases q : σ[j]? with
            | none => rw [q] at e2'; cases e2'
            | some o => rw [q] at e2'; exact congrArg some e2'
          obtain ⟨m, hn, hl⟩ := I3.loc
          obtain ⟨u, r, l⟩ := hl j y v a1 e4 a2
          refine ⟨u, r, .inr ⟨a4, ?_⟩⟩
          rcases l with ⟨k, _⟩ | ⟨k, c, z, ⟨o, ho, hd⟩⟩
          · exact absurd k a3
          · exact ⟨c, a5 c z, o, old _ _ ho, hd⟩
    · obtain ⟨w', o, ho, hd⟩ := I3.cell y c (hcl1 y c z)
      exact ⟨w', o, old _ _ ho, hd⟩
    · have hp' : p ∈ X.pn ++ pins := by
        have z : p ∈ (X.pn ++ pins) ++ [] := hp
        rw [List.append_nil] at z; exact z
      obtain ⟨z, n, ne, nf, d⟩ := I3.pin p hp'
      refine ⟨old _ _ z, n, by rw [← eC]; exact Nat.ne_of_lt (Heap.lt_size z), fun hm => ?_, d⟩
      rcases List.mem_cons.mp (I3.stkSub p.1 hm) with y | y
      · exact ne y
      · exact nf y
  have st4 : tn 0 h1 := T.keep _ _ _ st2 fun b hb o z => old b o (by rw [← hp3]; exact Heap.get?_push_of_some _ z)
  have stat : ∀ {H' : Hp}, (∀ b ∈ fp, H' b = none) → ∀ b ∈ fp, FpOk (X.cp Nc scope cl C s3 (upd H2 D (.lst [])) fp (X.pn ++ pins)) [] H' b := fun hn b hb =>
    ⟨hn b hb, (okC.exf b hb).1, okC.exfs b hb, .inl hb, (okC.exf b hb).2 |> fun q x c z => q x c z, fun p hp => (f3 b hb).2.2.2.2.2 p (by
      have z : p ∈ (X.pn ++ pins) ++ [] := hp
      rw [List.append_nil] at z; exact z)⟩
  have loop : codeAny (model X.prog X.w) X.A (.compLoop (.ListComp elt [⟨tg, iter, [], 0⟩] scope pos) 0 (.ref it) (.ref D) (compEnvC scope cl C X.env)) (compPost (model X.prog X.w) X.A X.xe use QQ (.ref D) C) { s2 with heap := h1, toks := s2.toks + ([] : List (Str × Value)).length } := by
    refine comp_loop (fun n s' => ∃ i ys σc H', Inv (X.cp Nc scope cl C s3 (upd H2 D (.lst [])) fp (X.pn ++ pins)) [] σc H' s' ∧ tn i s'.heap ∧ (∀ b ∈ fp, H' b = none) ∧ W i n ys σc H') ?_ m0 ⟨0, [], _, _, I4, st4, fun b hb => (f3 b hb).1, w0⟩
    rintro n s5 ⟨i, ys, σ5, H5, I5, st5, fr5, w5⟩
    rcases turn i n ys σ5 H5 w5 with ⟨hD, stop, qn⟩ | ⟨go, step⟩
    · refine thn (T.done (X.cp Nc scope cl C s3 (upd H2 D (.lst [])) fp (X.pn ++ pins)) rfl rfl rfl hc i [] s5 σ5 H5 _ I5 (stat fr5) st5 stop) fun r s6 ⟨hr, I6⟩ => ?_
      subst hr
      obtain ⟨mC, hnC, _⟩ := id I6.loc
      have I7 : Inv X pins σ H5 s6 := I3.call' (ch := fp) I6.os I6.base I6.hok I6.bare fun b hb => ⟨(f3 b hb).2.2.2.1, (f3 b hb).2.1, (f3 b hb).2.2.2.2.1, (f3 b hb).2.2.2.2.2⟩
      have nC : s3.heap.objs.size ≤ C := by rw [eC]; exact Nat.le_refl _
      exact fin D C H5 s6 mC I7 hnC (I3.fpOk nC I6.free) qn
    · refine thn (T.item (X.cp Nc scope cl C s3 (upd H2 D (.lst [])) fp (X.pn ++ pins)) rfl rfl rfl hc i [] s5 σ5 H5 _ I5 (stat fr5) st5 go) fun r s6 ⟨u, hr, h6⟩ => ?_
      subst hr
      refine thn h6 fun _ s7 ⟨x, H7, I7, r7, y7, st7, fr7⟩ => ?_
      have I7' := I7.pinned (stat fr7) (T.obj _ _ st7)
      refine thn (hg C s3 _ fp _ _ s7 σ5 H7 x u _ I7' r7 (step x H7 y7)) fun _ s8 ⟨σ8, H8, I8, q8⟩ => ?_
      refine thn (he C s3 _ fp _ _ s8 σ8 H8 _ I8 q8) fun v9 s9 ⟨y9, H9, I9, r9, hD9, hz9, m9, lt9, w9⟩ => ?_
      refine thn (mt_append (X := X.cp Nc scope cl C s3 (upd H2 D (.lst [])) fp (X.pn ++ pins)) _ s9 σ8 H9 (.ref D) [y9] (.ref D) [v9] (fun _ H10 => H10 = upd H9 D (.lst (ys ++ [y9]))) I9 rfl (.cons r9 .nil) ⟨D, ys, y9, rfl, rfl, hD9, hz9, rfl⟩) fun v10 s10 ⟨_, H10, I10, _, e10⟩ => ?_
      subst e10
      refine ⟨m9, lt9, i + 1, ys ++ [y9], σ8, _, I10.unpinned, T.keep _ _ _ st7 fun b hb o z => (I10.pin (b, o) (List.mem_append_right _ (List.mem_append_right _ (mem_pinsAt hb z)))).1, fun b hb => ?_, w9⟩
      obtain ⟨o, z, d⟩ := T.obj _ _ st7 b hb
      exact (I10.pin (b, o) (List.mem_append_right _ (List.mem_append_right _ (mem_pinsAt hb z)))).2.1
  exact codeAny_compStart_list loop (T.self X.A 0 _ _ _ st4 loop)
end L2
namespace L2
open PySem PySem.Spec PyProof.Rows
inductive Dt where
  | non | bl (b : Bool) | int (i : Int) | str (x : Str) | tup (l : List Dt) | lst (l : List Dt)
mutual
def Rep (K : PySem.W.Frag) (H : Hp) : Dt → V → Prop
  | .non, v => v = .non
  | .bl b, v => v = .bl b
  | .int i, v => v = .int i
  | .str x, v => v = .str x
  | .tup l, v => ∃ a xs, v = .ref a ∧ SqT K H a xs ∧ Reps K H l xs
  | .lst l, v => ∃ a xs, v = .ref a ∧ SqL K H a xs ∧ Reps K H l xs
def Reps (K : PySem.W.Frag) (H : Hp) : List Dt → List V → Prop
  | [], xs => xs = []
  | d :: l, xs => ∃ x r, xs = x :: r ∧ Rep K H d x ∧ Reps K H l r
end
mutual
def Dt.sim : Dt → Dt → Bool
  | .non, .non => true
  | .bl _, .bl _ => true
  | .int _, .int _ => true
  | .str _, .str _ => true
  | .tup l, .tup m => Dt.sims l m
  | .lst l, .lst m => Dt.sims l m
  | _, _ => false
def Dt.sims : List Dt → List Dt → Bool
  | d :: l, e :: m => Dt.sim d e && Dt.sims l m
  | _, _ => true
end
mutual
def Dt.eqb : Dt → Dt → Bool
  | .non, .non => true
  | .bl a, .bl b => a == b
  | .int a, .int b => a == b
  | .str a, .str b => a == b
  | .tup l, .tup m => Dt.eqbs l m
  | .lst l, .lst m => Dt.eqbs l m
  | _, _ => false
def Dt.eqbs : List Dt → List Dt → Bool
  | [], [] => true
  | d :: l, e :: m => Dt.eqb d e && Dt.eqbs l m
  | _, _ => false
end
mutual
def Dt.dep : Dt → Nat
  | .tup l => Dt.deps l + 1
  | .lst l => Dt.deps l + 1
  | _ => 0
def Dt.deps : List Dt → Nat
  | [] => 0
  | d :: l => max (Dt.dep d) (Dt.deps l)
end
mutual
theorem Dt.eqb_refl : ∀ d : Dt, Dt.eqb d d = true
  | .non => rfl
  | .bl b => by simp [Dt.eqb]
  | .int i => by simp [Dt.eqb]
  | .str x => by simp [Dt.eqb]
  | .tup l => by rw [Dt.eqb]; exact Dt.eqbs_refl l
  | .lst l => by rw [Dt.eqb]; exact Dt.eqbs_refl l
theorem Dt.eqbs_refl : ∀ l : List Dt, Dt.eqbs l l = true
  | [] => rfl
  | d :: l => by rw [Dt.eqbs, Dt.eqb_refl d, Dt.eqbs_refl l]; rfl
end
mutual
theorem Dt.sim_refl : ∀ d : Dt, Dt.sim d d = true
  | .non => rfl
  | .bl b => rfl
  | .int i => rfl
  | .str x => rfl
  | .tup l => by rw [Dt.sim]; exact Dt.sims_refl l
  | .lst l => by rw [Dt.sim]; exact Dt.sims_refl l
theorem Dt.sims_refl : ∀ l : List Dt, Dt.sims l l = true
  | [] => rfl
  | d :: l => by rw [Dt.sims, Dt.sim_refl d, Dt.sims_refl l]; rfl
end
section
variable {X : Cx} {pins : List (Addr × Obj)} {σ : St} {H : Hp} {s : Shared}
theorem Inv.lt_inj (I : Inv X pins σ H s) {a : Addr} {xs ys : List V} (h : SqL X.K H a xs) (h' : SqT X.K H a ys) : False := by
  obtain ⟨its, _, ⟨ob, n, p, c', _⟩, _⟩ := I.list h
  obtain ⟨its', _, ⟨o, q, c, _⟩, _⟩ := I.tuple h'
  rw [p] at q
  cases q
  rw [c'] at c
  exact absurd c (by decide)
mutual
theorem Rep.inj (I : Inv X pins σ H s) : ∀ (d e : Dt) (v : V), Rep X.K H d v → Rep X.K H e v → d = e := by
  intro d e v h k
  match d, e with
  | .non, .non => rfl
  | .bl a, .bl b => simp only [Rep] at h k; subst h; cases k; rfl
  | .int a, .int b => simp only [Rep] at h k; subst h; cases k; rfl
  | .str a, .str b => simp only [Rep] at h k; subst h; cases k; rfl
  | .tup l, .tup m =>
    simp only [Rep] at h k
    obtain ⟨a, xs, rfl, s1, r1⟩ := h
    obtain ⟨b, ys, e, s2, r2⟩ := k
    cases e
    rw [I.tuple_inj s2 s1] at r2
    rw [Reps.inj I l m xs r1 r2]
  | .lst l, .lst m =>
    simp only [Rep] at h k
    obtain ⟨a, xs, rfl, s1, r1⟩ := h
    obtain ⟨b, ys, e, s2, r2⟩ := k
    cases e
    rw [I.list_inj s2 s1] at r2
    rw [Reps.inj I l m xs r1 r2]
  | .tup l, .lst m =>
    simp only [Rep] at h k
    obtain ⟨a, xs, rfl, s1, r1⟩ := h
    obtain ⟨b, ys, e, s2, r2⟩ := k
    cases e
    exact (I.lt_inj s2 s1).elim
  | .lst l, .tup m =>
    simp only [Rep] at h k
    obtain ⟨a, xs, rfl, s1, r1⟩ := h
    obtain ⟨b, ys, e, s2, r2⟩ := k
    cases e
    exact (I.lt_inj s1 s2).elim
  | .non, .bl _ | .non, .int _ | .non, .str _ | .bl _, .non | .bl _, .int _ | .bl _, .str _ | .int _, .non | .int _, .bl _ | .int _, .str _ | .str _, .non | .str _, .bl _ | .str _, .int _ => simp only [Rep] at h k; subst h; cases k
  | .non, .tup _ | .bl _, .tup _ | .int _, .tup _ | .str _, .tup _ | .non, .lst _ | .bl _, .lst _ | .int _, .lst _ | .str _, .lst _ => simp only [Rep] at h k; subst h; obtain ⟨b, ys, e, _⟩ := k; cases e
  | .tup _, .non | .tup _, .bl _ | .tup _, .int _ | .tup _, .str _ | .lst _, .non | .lst _, .bl _ | .lst _, .int _ | .lst _, .str _ => simp only [Rep] at h k; subst k; obtain ⟨b, ys, e, _⟩ := h; cases e
theorem Reps.inj (I : Inv X pins σ H s) : ∀ (l m : List Dt) (xs : List V), Reps X.K H l xs → Reps X.K H m xs → l = m := by
  intro l m xs h k
  match l, m with
  | [], [] => rfl
  | [], e :: m => simp only [Reps] at h k; subst h; obtain ⟨x, r, z, _⟩ := k; cases z
  | d :: l, [] => simp only [Reps] at h k; subst k; obtain ⟨x, r, z, _⟩ := h; cases z
  | d :: l, e :: m =>
    simp only [Reps] at h k
    obtain ⟨x, r, rfl, h1, h2⟩ := h
    obtain ⟨y, q, z, k1, k2⟩ := k
    cases z
    rw [Rep.inj I d e x h1 k1, Reps.inj I l m r h2 k2]
end
theorem Reps.len {K : PySem.W.Frag} {H : Hp} : ∀ {l : List Dt} {xs : List V}, Reps K H l xs → l.length = xs.length
  | [], xs, h => by simp only [Reps] at h; rw [h]; rfl
  | d :: l, xs, h => by
    simp only [Reps] at h
    obtain ⟨x, r, rfl, _, h2⟩ := h
    simp [Reps.len h2]
theorem Reps.at {K : PySem.W.Frag} {H : Hp} : ∀ {l : List Dt} {xs : List V} {j : Nat} {d : Dt}, Reps K H l xs → l[j]? = some d → ∃ x, xs[j]? = some x ∧ Rep K H d x
  | [], _, _, _, _, e => by simp at e
  | d0 :: l, xs, 0, d, h, e => by
    simp only [Reps] at h
    obtain ⟨x, r, rfl, h1, _⟩ := h
    simp at e; subst e
    exact ⟨x, rfl, h1⟩
  | d0 :: l, xs, j + 1, d, h, e => by
    simp only [Reps] at h
    obtain ⟨x, r, rfl, _, h2⟩ := h
    obtain ⟨y, e1, e2⟩ := Reps.at (j := j) h2 (by simpa using e)
    exact ⟨y, by simpa using e1, e2⟩
theorem Dt.deps_at : ∀ {l : List Dt} {j : Nat} {d : Dt}, l[j]? = some d → d.dep ≤ Dt.deps l
  | [], _, _, e => by simp at e
  | d0 :: l, 0, d, e => by simp at e; subst e; rw [Dt.deps]; exact Nat.le_max_left _ _
  | d0 :: l, j + 1, d, e => by rw [Dt.deps]; exact Nat.le_trans (Dt.deps_at (j := j) (by simpa using e)) (Nat.le_max_right _ _)
theorem Dt.sims_at : ∀ {l m : List Dt} {j : Nat} {d e : Dt}, Dt.sims l m = true → l[j]? = some d → m[j]? = some e → d.sim e = true
  | [], _, _, _, _, _, z, _ => by simp at z
  | _ :: _, [], _, _, _, _, _, z => by simp at z
  | d0 :: l, e0 :: m, 0, d, e, h, z1, z2 => by
    rw [Dt.sims] at h
    simp at z1 z2; subst z1 z2
    exact (Bool.and_eq_true_iff.mp h).1
  | d0 :: l, e0 :: m, j + 1, d, e, h, z1, z2 => by
    rw [Dt.sims] at h
    exact Dt.sims_at (j := j) (Bool.and_eq_true_iff.mp h).2 (by simpa using z1) (by simpa using z2)
theorem Dt.eqbs_all : ∀ {l m : List Dt}, l.length = m.length → Dt.eqbs l m = (List.range l.length).all fun j => match l[j]?, m[j]? with | some d, some e => d.eqb e | _, _ => true
  | [], [], _ => rfl
  | d :: l, e :: m, h => by
    have h' : l.length = m.length := by simpa using h
    rw [Dt.eqbs, Dt.eqbs_all h', List.length_cons, List.range_succ_eq_map, List.all_cons, List.all_map]
    rfl
theorem Dt.eqbs_len : ∀ {l m : List Dt}, l.length ≠ m.length → Dt.eqbs l m = false
  | [], [], h => absurd rfl h
  | [], _ :: _, _ => rfl
  | _ :: _, [], _ => rfl
  | d :: l, e :: m, h => by rw [Dt.eqbs, Dt.eqbs_len (by simpa using h), Bool.and_false]
def pairE (l m : List Dt) (j : Nat) : Bool := match l[j]?, m[j]? with | some d, some e => d.eqb e | _, _ => true
theorem items_at (I : Inv X pins σ H s) {k : Nat} {A : Around} {l m : List Dt} {xs ys : List V} {us vs : List Value}
    (ih : ∀ (A : Around) (d e : Dt) (x y : V) (u v : Value), d.dep ≤ k → A.units + k < cLine → d.sim e = true → Rep X.K H d x → Rep X.K H e y → RelV x u → RelV y v → SeqAt.EqAt A s u v (d.eqb e))
    (hd : Dt.deps l ≤ k) (hu : A.units + (k + 1) < cLine) (hs : Dt.sims l m = true) (r1 : Reps X.K H l xs) (r2 : Reps X.K H m ys) (v1 : Vals xs us) (v2 : Vals ys vs) :
    ∀ j (h1 : j < us.toArray.size) (h2 : j < vs.toArray.size), SeqAt.EqAt A.in1 s us.toArray[j] vs.toArray[j] (pairE l m j) := by
  intro j h1 h2
  have l1 : j < us.length := by simpa using h1
  have l2 : j < vs.length := by simpa using h2
  have n1 : l.length = us.length := r1.len.trans v1.length
  have n2 : m.length = vs.length := r2.len.trans v2.length
  obtain ⟨d, ed⟩ : ∃ d, l[j]? = some d := ⟨l[j], List.getElem?_eq_getElem (by omega)⟩
  obtain ⟨e, ee⟩ : ∃ e, m[j]? = some e := ⟨m[j], List.getElem?_eq_getElem (by omega)⟩
  obtain ⟨x, ex, rx⟩ := r1.at ed
  obtain ⟨y, ey, ry⟩ := r2.at ee
  obtain ⟨u, eu, ru⟩ := v1.get ex
  obtain ⟨v, ev, rv⟩ := v2.get ey
  have e1 : us.toArray[j] = u := by
    have := List.getElem?_eq_getElem l1
    rw [eu] at this
    simpa using (Option.some.inj this).symm
  have e2 : vs.toArray[j] = v := by
    have := List.getElem?_eq_getElem l2
    rw [ev] at this
    simpa using (Option.some.inj this).symm
  have ep : pairE l m j = d.eqb e := by unfold pairE; rw [ed, ee]
  rw [e1, e2, ep]
  exact ih A.in1 d e x y u v (Nat.le_trans (Dt.deps_at ed) hd) (by show A.units + 1 + k < cLine; omega) (Dt.sims_at hs ed ee) rx ry ru rv
theorem tup_b {l m : List Dt} {us vs : List Value} (n1 : l.length = us.length) (n2 : m.length = vs.length) : ((List.range (min us.toArray.size vs.toArray.size)).all (pairE l m) && us.toArray.size == vs.toArray.size) = Dt.eqbs l m := by
  have a1 : us.toArray.size = l.length := by simp [n1]
  have a2 : vs.toArray.size = m.length := by simp [n2]
  rw [a1, a2]
  by_cases h : l.length = m.length
  · rw [Dt.eqbs_all h, h, Nat.min_self]
    simp [pairE]
    rfl
  · rw [Dt.eqbs_len h, (beq_eq_false_iff_ne).mpr h, Bool.and_false]
theorem lst_b {l m : List Dt} {us vs : List Value} (n1 : l.length = us.length) (n2 : m.length = vs.length) (h : us.toArray.size = vs.toArray.size) : (List.range us.toArray.size).all (pairE l m) = Dt.eqbs l m := by
  have a1 : us.toArray.size = l.length := by simp [n1]
  have a2 : vs.toArray.size = m.length := by simp [n2]
  rw [Dt.eqbs_all (by omega), a1]
  rfl
theorem rc_tup (I : Inv X pins σ H s) {k : Nat} {A : Around} {l m : List Dt} {a b : Addr} {xs ys : List V}
    (ih : ∀ (A : Around) (d e : Dt) (x y : V) (u v : Value), d.dep ≤ k → A.units + k < cLine → d.sim e = true → Rep X.K H d x → Rep X.K H e y → RelV x u → RelV y v → SeqAt.EqAt A s u v (d.eqb e))
    (hd : Dt.deps l ≤ k) (hu : A.units + (k + 1) < cLine) (hs : Dt.sims l m = true) (q1 : SqT X.K H a xs) (q2 : SqT X.K H b ys) (r1 : Reps X.K H l xs) (r2 : Reps X.K H m ys) :
    SeqAt.RcAt A s (.ref a) (.ref b) (Dt.eqbs l m) ∧ SeqAt.RcNeAt A s (.ref a) (.ref b) (!Dt.eqbs l m) := by
  obtain ⟨us, v1, p1, _⟩ := I.tuple q1
  obtain ⟨vs, v2, p2, _⟩ := I.tuple q2
  have he := items_at I ih hd hu hs r1 r2 v1 v2
  rw [← tup_b (l := l) (m := m) (us := us) (vs := vs) (r1.len.trans v1.length) (r2.len.trans v2.length)]
  exact ⟨SeqAt.RcAt.tuples (show s.heap.IsTuple a us.toArray from p1) (show s.heap.IsTuple b vs.toArray from p2) (by omega) he, SeqAt.RcNeAt.tuples (show s.heap.IsTuple a us.toArray from p1) (show s.heap.IsTuple b vs.toArray from p2) (by omega) he⟩
theorem rc_lst (I : Inv X pins σ H s) {k : Nat} {A : Around} {l m : List Dt} {a b : Addr} {xs ys : List V}
    (ih : ∀ (A : Around) (d e : Dt) (x y : V) (u v : Value), d.dep ≤ k → A.units + k < cLine → d.sim e = true → Rep X.K H d x → Rep X.K H e y → RelV x u → RelV y v → SeqAt.EqAt A s u v (d.eqb e))
    (hd : Dt.deps l ≤ k) (hu : A.units + (k + 1) < cLine) (hs : Dt.sims l m = true) (q1 : SqL X.K H a xs) (q2 : SqL X.K H b ys) (r1 : Reps X.K H l xs) (r2 : Reps X.K H m ys) :
    SeqAt.RcAt A s (.ref a) (.ref b) (Dt.eqbs l m) ∧ SeqAt.RcNeAt A s (.ref a) (.ref b) (!Dt.eqbs l m) := by
  obtain ⟨us, v1, p1, _⟩ := I.list q1
  obtain ⟨vs, v2, p2, _⟩ := I.list q2
  have he := items_at I ih hd hu hs r1 r2 v1 v2
  by_cases hsz : us.toArray.size = vs.toArray.size
  · rw [← lst_b (l := l) (m := m) (us := us) (vs := vs) (r1.len.trans v1.length) (r2.len.trans v2.length) hsz]
    exact ⟨SeqAt.RcAt.lists p1.isList p2.isList hsz (by omega) he, SeqAt.RcNeAt.lists p1.isList p2.isList hsz (by omega) he⟩
  · have hl : l.length ≠ m.length := fun z => hsz (by
      have a1 := r1.len.trans v1.length
      have a2 := r2.len.trans v2.length
      simp; omega)
    rw [Dt.eqbs_len hl]
    exact ⟨SeqAt.RcAt.lists_lengths p1.isList p2.isList (by simpa using hsz) (by omega), SeqAt.RcNeAt.lists_lengths p1.isList p2.isList (by simpa using hsz) (by omega)⟩
theorem eq_at (I : Inv X pins σ H s) : ∀ (k : Nat) (A : Around) (d e : Dt) (x y : V) (u v : Value), d.dep ≤ k → A.units + k < cLine → d.sim e = true → Rep X.K H d x → Rep X.K H e y → RelV x u → RelV y v → SeqAt.EqAt A s u v (d.eqb e) := by
  intro k
  induction k with
  | zero =>
    intro A d e x y u v hd hu hs h1 h2 r1 r2
    match d, e with
    | .non, .non => simp only [Rep] at h1 h2; subst h1 h2; cases r1; cases r2; exact SeqAt.EqAt.same _
    | .bl a, .bl b => simp only [Rep] at h1 h2; subst h1 h2; cases r1; cases r2; exact SeqAt.EqAt.bool_bool a b
    | .int a, .int b => simp only [Rep] at h1 h2; subst h1 h2; obtain ⟨t, rfl⟩ := r1; obtain ⟨t', rfl⟩ := r2; exact SeqAt.EqAt.int_int a t b t'
    | .str a, .str b => simp only [Rep] at h1 h2; subst h1 h2; obtain ⟨t, rfl⟩ := r1; obtain ⟨t', rfl⟩ := r2; exact SeqAt.EqAt.str_str a t b t'
    | .tup l, _ => rw [Dt.dep] at hd; omega
    | .lst l, _ => rw [Dt.dep] at hd; omega
  | succ k ih =>
    intro A d e x y u v hd hu hs h1 h2 r1 r2
    match d, e with
    | .non, .non => simp only [Rep] at h1 h2; subst h1 h2; cases r1; cases r2; exact SeqAt.EqAt.same _
    | .bl a, .bl b => simp only [Rep] at h1 h2; subst h1 h2; cases r1; cases r2; exact SeqAt.EqAt.bool_bool a b
    | .int a, .int b => simp only [Rep] at h1 h2; subst h1 h2; obtain ⟨t, rfl⟩ := r1; obtain ⟨t', rfl⟩ := r2; exact SeqAt.EqAt.int_int a t b t'
    | .str a, .str b => simp only [Rep] at h1 h2; subst h1 h2; obtain ⟨t, rfl⟩ := r1; obtain ⟨t', rfl⟩ := r2; exact SeqAt.EqAt.str_str a t b t'
    | .tup l, .tup m =>
      have g1 := h1
      have g2 := h2
      simp only [Rep] at h1 h2
      obtain ⟨a, xs, rfl, q1, p1⟩ := h1
      obtain ⟨b, ys, rfl, q2, p2⟩ := h2
      cases r1; cases r2
      by_cases hab : a = b
      · subst hab
        rw [← Rep.inj I _ _ _ g1 g2, Dt.eqb_refl]
        exact SeqAt.EqAt.same _
      · rw [Dt.eqb]
        exact SeqAt.EqAt.of_refs hab (rc_tup I ih (by rw [Dt.dep] at hd; omega) hu (by rw [Dt.sim] at hs; exact hs) q1 q2 p1 p2).1
    | .lst l, .lst m =>
      have g1 := h1
      have g2 := h2
      simp only [Rep] at h1 h2
      obtain ⟨a, xs, rfl, q1, p1⟩ := h1
      obtain ⟨b, ys, rfl, q2, p2⟩ := h2
      cases r1; cases r2
      by_cases hab : a = b
      · subst hab
        rw [← Rep.inj I _ _ _ g1 g2, Dt.eqb_refl]
        exact SeqAt.EqAt.same _
      · rw [Dt.eqb]
        exact SeqAt.EqAt.of_refs hab (rc_lst I ih (by rw [Dt.dep] at hd; omega) hu (by rw [Dt.sim] at hs; exact hs) q1 q2 p1 p2).1
end
def rEqD (K : PySem.W.Frag) (ne : Bool) : R2 := fun x y H Q => ∃ d e, Rep K H d x ∧ Rep K H e y ∧ d.sim e = true ∧ 1 ≤ d.dep ∧ d.dep ≤ 60 ∧ Q (.bl (if ne then !d.eqb e else d.eqb e)) H
theorem eqD_at {X : Cx} {pins : List (Addr × Obj)} {σ : St} {H : Hp} {s : Shared} (I : Inv X pins σ H s) (hu : X.A.units + 64 < cLine) {d e : Dt} {x y : V} {u v : Value} (h1 : Rep X.K H d x) (h2 : Rep X.K H e y) (hs : d.sim e = true) (hd : 1 ≤ d.dep) (hd2 : d.dep ≤ 60) (r1 : RelV x u) (r2 : RelV y v) :
    SeqAt.RcAt X.A s u v (d.eqb e) ∧ SeqAt.RcNeAt X.A s u v (!d.eqb e) := by
  cases d with
  | tup l =>
    cases e with
    | tup m =>
      simp only [Rep] at h1 h2
      obtain ⟨a, xs, rfl, q1, p1⟩ := h1
      obtain ⟨b, ys, rfl, q2, p2⟩ := h2
      cases r1; cases r2
      rw [show Dt.eqb (.tup l) (.tup m) = Dt.eqbs l m from by rw [Dt.eqb]]
      have hd3 : Dt.deps l + 1 ≤ 60 := by rw [Dt.dep] at hd2; exact hd2
      exact rc_tup I (eq_at I (Dt.deps l)) (Nat.le_refl _) (by omega) (by rw [Dt.sim] at hs; exact hs) q1 q2 p1 p2
    | _ => exact absurd hs (by rw [Dt.sim] <;> simp)
  | lst l =>
    cases e with
    | lst m =>
      simp only [Rep] at h1 h2
      obtain ⟨a, xs, rfl, q1, p1⟩ := h1
      obtain ⟨b, ys, rfl, q2, p2⟩ := h2
      cases r1; cases r2
      rw [show Dt.eqb (.lst l) (.lst m) = Dt.eqbs l m from by rw [Dt.eqb]]
      have hd3 : Dt.deps l + 1 ≤ 60 := by rw [Dt.dep] at hd2; exact hd2
      exact rc_lst I (eq_at I (Dt.deps l)) (Nat.le_refl _) (by omega) (by rw [Dt.sim] at hs; exact hs) q1 q2 p1 p2
    | _ => exact absurd hs (by rw [Dt.sim] <;> simp)
  | non => exact absurd (show 1 ≤ 0 from hd) (by decide)
  | bl b => exact absurd (show 1 ≤ 0 from hd) (by decide)
  | int b => exact absurd (show 1 ≤ 0 from hd) (by decide)
  | str b => exact absurd (show 1 ≤ 0 from hd) (by decide)
theorem op_neD {X : Cx} (hu : X.A.units + 64 < cLine) : OpR X (compareOp .NotEq) (rEqD X.K true) := by
  intro pins s σ H x y v u Q I rx ry h
  obtain ⟨d, e, h1, h2, hs, hd, hd2, q⟩ := h
  exact (eqD_at I hu h1 h2 hs hd hd2 rx ry).2 _ _ _ _ ⟨.bl (!d.eqb e), H, I, rfl, q⟩
end L2
namespace L2
open PySem PySem.Spec PyProof.Rows
theorem rel_mem {scope : Scope} {env : Env} {y : Str} {k : NameKind} (h : (relabel scope env).names.lookup y = some k) (hk : k = .cell ∨ k = .free) (hc : ∀ p ∈ scope.names, p.2 ≠ .cell) : (y, NameKind.free) ∈ scope.names := by
  have m := PySem.mem_of_lookup h
  obtain ⟨⟨n, k'⟩, hm, e⟩ := List.mem_map.mp (show (y, k) ∈ scope.names.map _ from m)
  dsimp only at e
  split at e
  · rename_i q
    cases e
    have z : (k' == NameKind.free) = true := (Bool.and_eq_true_iff.mp (Bool.and_eq_true_iff.mp q).1).1
    rw [beq_iff_eq.mp z] at hm
    exact hm
  · cases e
    rcases hk with rfl | rfl
    · exact absurd rfl (hc _ hm)
    · exact hm
theorem pe_comp1 {X : Cx} {elt iter tg : Expr} {scope : Scope} (Nl : List Str) (y : Str) (j : Nat) {c : Addr} {wi : TI} {g : TG} {te : TE} {pos : Pos} (hc : X.calm = true) (hi : PI X tg iter wi)
    (hg : ∀ C s₀ H₀ ex pn, PG (X.cp (Nl ++ [y]) scope [(y, c)] C s₀ H₀ ex pn) tg g) (he : ∀ C s₀ H₀ ex pn, PE (X.cp (Nl ++ [y]) scope [(y, c)] C s₀ H₀ ex pn) elt te)
    (hclos : closureFor scope X.env = pure [(y, c)]) (hy : X.env.cells.lookup y = some c) (hN : X.N[j]? = some y) (hk : X.env.kindOf y = some .cell) (hb : (relabel scope X.env).names.lookup y = some .cell)
    (h1 : ∀ p ∈ scope.names, p.2 = .free → p.1 = y := by decide +kernel) (hcell : ∀ y ∈ scope.names, y.2 ≠ .cell := by decide +kernel) (hkind : scope.kind = .function := by rfl) (hnames : ∀ y ∈ scope.names, y.2 = .local → scope.names.lookup y.1 = some .local := by decide +kernel)
    (hs : ∀ x, foldedSetIterable iter X.env x = pure x := by intro _; rfl) : PCo X (.ListComp elt [⟨tg, iter, [], 0⟩] scope pos) scope iter (tComp ((Nl.map fun _ => none) ++ [some j]) wi g te) := by
  have look : ∀ z d, List.lookup z [(y, c)] = some d → z = y ∧ d = c := fun z d h => by
    have m := PySem.mem_of_lookup h
    cases List.mem_singleton.mp m
    exact ⟨rfl, rfl⟩
  have self : List.lookup y [(y, c)] = some c := by simp
  refine pe_comp (cl := [(y, c)]) (Nc := Nl ++ [y]) hc hi hg he (by simp) (fun z d h => ?_) (fun z h => ?_) (fun i z j' e1 e2 => ?_) hclos hcell hkind hnames hs
  · obtain ⟨rfl, rfl⟩ := look z d h
    exact hy
  · have m := h.elim (fun q => rel_mem q (.inl rfl) hcell) fun q => rel_mem q (.inr rfl) hcell
    have e : z = y := h1 _ m rfl
    subst e
    exact ⟨c, self⟩
  · have hi : i = Nl.length := by
      by_cases hlt : i < Nl.length
      · rw [List.getElem?_append_left (by simpa using hlt), List.getElem?_map] at e2
        cases q : Nl[i]? with
        | none => rw [q] at e2; cases e2
        | some z => rw [q] at e2; cases e2
      · have := (List.getElem?_eq_some_iff.mp e1).1
        simp at this
        omega
    subst hi
    have a1 : (Nl ++ [y])[Nl.length]? = some y := by simp
    have a2 : ((Nl.map fun _ => (none : Option Nat)) ++ [some j])[Nl.length]? = some (some j) := by
      rw [List.getElem?_append_right (by simp)]
      simp
    rw [a1] at e1; cases e1
    rw [a2] at e2; cases e2
    exact ⟨hN, .inr (.inl hk), by rw [hk]; exact (fun q => nomatch q), .inl hb, fun d h => by rw [hy] at h; cases h; exact self⟩
structure Callee (P : Program) (w : World) (K : PySem.W.Frag) (mg : Str → Option Value) (base : Heap) (k : Nat) (x : Str) (ps : List Str) (sp : Sp) : Prop where
  ex : ∃ f fd, FnOk P w K mg base (CXe P w) k f fd ps sp ∧ mg x = some (.ref f) ∧ PySem.W.keepIn K (.ref f) = true ∧ Binds K fd ps []
section
variable {X : Cx} {k : Nat} {sp : Sp} {ps : List Str} {x : Str} {p pos : Pos} {e : Expr} {es : List Expr} {t : TA}
theorem pe_c {E : XK} (G : Callee X.prog X.w X.K X.mg X.base k x ps sp) (hr : Room k X.A) (hx : Passes (CXe X.prog X.w) X E) (ha : PA X (e :: es) t) (hg : Gl X x := by rfl)
    (hdb : (x == ("__debug__" : Str)) = false := by decide) (he : starEach (e :: es) X.env = (false, eval e X.env) :: starEach es X.env := by rfl) (hpl : (backTo pos (starEach es X.env)).any (·.1) = false := by rfl) :
    PE X (.Call (.Name x p) (e :: es) [] pos) (tCall sp [] E t) := by
  obtain ⟨f, fd, F, m, kp, b⟩ := G.ex
  exact pe_call F hr hg m kp b .nil hx ha hdb he hpl
end
theorem np {P : Program} {w : World} {X : Cx} : Passes (CXe P w) X E0 := passE0
end L2
namespace L2
open PySem PySem.Spec PyProof.Rows
def tMo (t : TE) : TE := fun σ H Q => ∃ Q0 : VK, t σ H Q0 ∧ ∀ v H', Q0 v H' → Q v H'
theorem PE.mo {X : Cx} {e : Expr} {t : TE} (h : PE X e t) : PE X e (tMo t) := fun pins s σ H Q I ⟨Q0, h0, k⟩ =>
  thn (h pins s σ H Q0 I h0) fun u s1 ⟨v, H1, I1, r, q⟩ => ⟨v, H1, I1, r, k v H1 q⟩
def FR (n : Nat) (g : TG) (tb : TS) (D : Ends) (σ : St) (H : Hp) : Prop := ∃ Pv : Nat → St → Hp → Prop, Pv 0 σ H ∧ (∀ i σ H, i < n → Pv i σ H → g (.int i) σ H fun σ2 H2 => tb { D with nx := Pv (i + 1), ct := Pv (i + 1), bk := D.nx } σ2 H2) ∧ ∀ σ H, Pv n σ H → D.nx σ H
def tForR (te : TE) (g : TG) (tb : TS) : TS := fun D σ H => te σ H fun v H1 => ∃ j : Int, v = .int j ∧ -(2 ^ 62) ≤ j ∧ j < 2 ^ 62 ∧ FR j.toNat g tb D σ H1
section
variable {X : Cx} {tg a : Expr} {body : List Stmt} {te : TE} {g : TG} {tb : TS} {p pos pos' : Pos}
theorem pi_rangeM (hg : Gl X "range") (hm : X.mg "range" = none) (ha : PE X a te) (hs : starEach [a] X.env = [(false, eval a X.env)]) : PI X tg (.Call (.Name "range" p) [a] [] pos) (iRng1 (tCons (tMo te) tNil)) := pi_range1 hg hm (pa_cons ha.mo pa_nil (by rw [hs]; rfl)) hs
theorem ps_forR (hc : X.calm = true) (hp : PassesOwn (model X.prog X.w) X.A X.env X.xe) (hm : X.mg "range" = none) (ha : PE X a te) (hgt : PG X tg g) (hb : PSs X body tb) (hg : Gl X "range" := by rfl) (hs : starEach [a] X.env = [(false, eval a X.env)] := by rfl) :
    PS X (.For tg (.Call (.Name "range" p) [a] [] pos') body [] pos) (tForR te g tb) := by
  intro pins s σ H D I h
  refine ps_for hp hc (pi_rangeM hg hm ha hs) hgt hb (by intro _; rfl) pins s σ H D I ?_
  refine ⟨_, h, fun v H1 ⟨j, e, b1, b2, Pv, p0, pt, pd⟩ => ⟨j, by rw [e], b1, b2, ?_⟩⟩
  exact for_range (lo := 0) (n := j.toNat) Pv p0 (fun i σ' H' hi q => by rw [show (0 : Int) + (i : Int) = (i : Int) from Int.zero_add _]; exact pt i σ' H' hi q) pd
end
def FL (xs : List V) (at_ : Hp → Prop) (g : TG) (tb : TS) (D : Ends) (σ : St) (H : Hp) : Prop := ∃ Pv : Nat → St → Hp → Prop, Pv 0 σ H ∧ (∀ i σ H, i ≤ xs.length → Pv i σ H → at_ H) ∧ (∀ i x σ H, xs[i]? = some x → Pv i σ H → g x σ H fun σ2 H2 => tb { D with nx := Pv (i + 1), ct := Pv (i + 1), bk := D.nx } σ2 H2) ∧ ∀ σ H, Pv xs.length σ H → D.nx σ H
def tForL (K : PySem.W.Frag) (te : TE) (g : TG) (tb : TS) : TS := fun D σ H => te σ H fun v H1 => ∃ a xs, v = .ref a ∧ SqL K H1 a xs ∧ FL xs (fun H => SqL K H a xs) g tb D σ H1
def tForT (K : PySem.W.Frag) (te : TE) (g : TG) (tb : TS) : TS := fun D σ H => te σ H fun v H1 => ∃ a xs, v = .ref a ∧ SqT K H1 a xs ∧ FL xs (fun H => SqT K H a xs) g tb D σ H1
section
variable {X : Cx} {tg l : Expr} {body : List Stmt} {te : TE} {g : TG} {tb : TS} {p pos pos' : Pos}
theorem ps_forL (hc : X.calm = true) (hp : PassesOwn (model X.prog X.w) X.A X.env X.xe) (hl : PE X l te) (hgt : PG X tg g) (hb : PSs X body tb) (hs : ∀ x, foldedSetIterable l X.env x = pure x := by intro _; rfl) :
    PS X (.For tg l body [] pos) (tForL X.K te g tb) := by
  intro pins s σ H D I h
  refine ps_for hp hc (pi_list hl.mo) hgt hb hs pins s σ H D I ?_
  refine ⟨_, h, fun v H1 ⟨a, xs, e, q, Pv, p0, pl, pt, pd⟩ => ⟨a, e, ⟨xs, q⟩, ?_⟩⟩
  exact for_list (xs := xs) Pv p0 pl pt pd
end
def CO (n : Nat) (src : Nat → Hp → V → Prop) (st : Hp → Prop) (js : List (Option Nat)) (g : TG) (tl : TE) (σ : St) (H1 : Hp) (Q : VK) : Prop := ∀ D, H1 D = none → ∃ Pv : Nat → List V → St → Hp → Prop, Pv 0 [] (cσ js σ) (upd H1 D (.lst [])) ∧ (∀ i ys σc H, i ≤ n → Pv i ys σc H → st H) ∧
  (∀ i ys σc H x, i < n → Pv i ys σc H → src i H x → g x σc H fun σ2 H2 => tl σ2 H2 fun y H3 => H3 D = some (.lst ys) ∧ ys.length < sizeLine ∧ Pv (i + 1) (ys ++ [y]) σ2 (upd H3 D (.lst (ys ++ [y])))) ∧ ∀ ys σc H, Pv n ys σc H → H D = some (.lst ys) ∧ Q (.ref D) H
def tMoG (g : TG) : TG := fun v σ H Q => ∃ Q0 : St → Hp → Prop, g v σ H Q0 ∧ ∀ σ' H', Q0 σ' H' → Q σ' H'
theorem CO.run {n : Nat} {src : Nat → Hp → V → Prop} {st : Hp → Prop} {js : List (Option Nat)} {g : TG} {tl : TE} {σ : St} {H1 : Hp} {Q : VK} {J : It} (h : CO n src st js g tl σ H1 Q) (hgo : ∀ i H, i < n → st H → J.go i H) (hst : ∀ H, st H → J.stop n H) (hy : ∀ i H x H', i < n → st H → J.yld i H x H' → H' = H ∧ src i H x) :
    ∀ D, H1 D = none → ∃ W : Nat → Nat → List V → St → Hp → Prop, (∃ m, W 0 m [] (cσ js σ) (upd H1 D (.lst []))) ∧
    ∀ i m ys σc H, W i m ys σc H → (H D = some (.lst ys) ∧ J.stop i H ∧ Q (.ref D) H) ∨ (J.go i H ∧ ∀ x H', J.yld i H x H' → tMoG g x σc H' fun σ2 H2 => tMo tl σ2 H2 fun y H3 => H3 D = some (.lst ys) ∧ ys.length < sizeLine ∧ ∃ m', m' < m ∧ W (i + 1) m' (ys ++ [y]) σ2 (upd H3 D (.lst (ys ++ [y])))) := by
  intro D hD
  obtain ⟨Pv, p0, ps, pt, pd⟩ := h D hD
  refine ⟨fun i m ys σc H => m = n - i ∧ i ≤ n ∧ Pv i ys σc H, ⟨n, by simp, Nat.zero_le _, p0⟩, ?_⟩
  rintro i m ys σc H ⟨rfl, hi, p⟩
  have s0 := ps i ys σc H hi p
  by_cases hlt : i < n
  · refine .inr ⟨hgo i H hlt s0, fun x H' y => ?_⟩
    obtain ⟨rfl, hx⟩ := hy i H x H' hlt s0 y
    have z := pt i ys σc H' x hlt p hx
    exact ⟨_, z, fun σ2 H2 z2 => ⟨_, z2, fun y3 H3 ⟨a1, a2, a3⟩ => ⟨a1, a2, n - (i + 1), by omega, rfl, hlt, a3⟩⟩⟩
  · have e : i = n := by omega
    subst e
    obtain ⟨a1, a2⟩ := pd ys σc H p
    exact .inl ⟨a1, hst H s0, a2⟩
def tCoR (js : List (Option Nat)) (te : TE) (g : TG) (tl : TE) : TE := fun σ H Q => te σ H fun v H1 => ∃ j : Int, v = .int j ∧ -(2 ^ 62) ≤ j ∧ j < 2 ^ 62 ∧ CO j.toNat (fun i _ x => x = .int i) (fun _ => True) js g tl σ H1 Q
def tCoL (K : PySem.W.Frag) (js : List (Option Nat)) (te : TE) (g : TG) (tl : TE) : TE := fun σ H Q => te σ H fun v H1 => ∃ a xs, v = .ref a ∧ SqL K H1 a xs ∧ CO xs.length (fun i _ x => xs[i]? = some x) (fun H => SqL K H a xs) js g tl σ H1 Q
def tCoT (K : PySem.W.Frag) (js : List (Option Nat)) (te : TE) (g : TG) (tl : TE) : TE := fun σ H Q => te σ H fun v H1 => ∃ a xs, v = .ref a ∧ SqT K H1 a xs ∧ CO xs.length (fun i _ x => xs[i]? = some x) (fun H => SqT K H a xs) js g tl σ H1 Q
theorem PG.mo {X : Cx} {tg : Expr} {g : TG} (h : PG X tg g) : PG X tg (tMoG g) := fun pins s σ H v u Q I r ⟨Q0, h0, k⟩ =>
  thn (h pins s σ H v u Q0 I r h0) fun _ s1 ⟨σ1, H1, I1, q⟩ => ⟨σ1, H1, I1, k σ1 H1 q⟩
theorem PE.of {X : Cx} {e : Expr} {t t' : TE} (h : PE X e t') (k : ∀ σ H Q, t σ H Q → t' σ H Q) : PE X e t := fun pins s σ H Q I q => h pins s σ H Q I (k σ H Q q)
section
variable {X : Cx} {tg a elt : Expr} {te tl : TE} {g : TG} {p pos pos' : Pos} {scope : Scope} {cl : List (Str × Addr)} {Nc : List Str} {js : List (Option Nat)}
theorem coR (hm : X.mg "range" = none) (ha : PE X a te) (hp : ∀ (wi : TI), PI X tg (.Call (.Name "range" p) [a] [] pos') wi → PCo X (.ListComp elt [⟨tg, .Call (.Name "range" p) [a] [] pos', [], 0⟩] scope pos) scope (.Call (.Name "range" p) [a] [] pos') (tComp js wi (tMoG g) (tMo tl)))
    (hg : Gl X "range" := by rfl) (hs : starEach [a] X.env = [(false, eval a X.env)] := by rfl) : PCo X (.ListComp elt [⟨tg, .Call (.Name "range" p) [a] [] pos', [], 0⟩] scope pos) scope (.Call (.Name "range" p) [a] [] pos') (tCoR js te g tl) := by
  refine (hp _ (pi_rangeM hg hm ha hs)).of fun σ H Q h => ?_
  refine ⟨_, h, fun v H1 ⟨j, e, b1, b2, c⟩ => ⟨j, by rw [e], b1, b2, ?_⟩⟩
  refine CO.run (J := Itr 0 j.toNat) c (fun _ _ h _ => h) (fun _ _ => Nat.le_refl _) fun i H x H' _ _ y => ⟨y.1, ?_⟩
  rw [y.2, Int.zero_add]
theorem coL (ha : PE X a te) (hp : ∀ (wi : TI), PI X tg a wi → PCo X (.ListComp elt [⟨tg, a, [], 0⟩] scope pos) scope a (tComp js wi (tMoG g) (tMo tl))) : PCo X (.ListComp elt [⟨tg, a, [], 0⟩] scope pos) scope a (tCoL X.K js te g tl) := by
  refine (hp _ (pi_list ha.mo)).of fun σ H Q h => ?_
  refine ⟨_, h, fun v H1 ⟨b, xs, e, q, c⟩ => ⟨b, e, ⟨xs, q⟩, ?_⟩⟩
  refine CO.run (J := Itl X.K b) c (fun i H hi z => ⟨xs, xs[i], z, by simp [hi]⟩) (fun H z => ⟨xs, z, Nat.le_refl _⟩) fun i H x H' _ z y => ⟨y.1, y.2 xs z⟩
end
def WH (c : TT) (tb : TS) (D : Ends) (σ : St) (H : Hp) : Prop := ∃ (Pv : St → Hp → Prop) (μ : St → Hp → Nat), Pv σ H ∧ ∀ σ H, Pv σ H → c σ H fun b H1 => if b = true then tb { D with nx := fun σ' H' => Pv σ' H' ∧ μ σ' H' < μ σ H, ct := fun σ' H' => Pv σ' H' ∧ μ σ' H' < μ σ H, bk := D.nx } σ H1 else D.nx σ H1
def tMoT (t : TT) : TT := fun σ H Q => ∃ Q0 : Bool → Hp → Prop, t σ H Q0 ∧ ∀ v H', Q0 v H' → Q v H'
theorem PT.mo {X : Cx} {e : Expr} {t : TT} (h : PT X e t) : PT X e (tMoT t) := fun pins s σ H Q I ⟨Q0, h0, k⟩ => thn (h pins s σ H Q0 I h0) fun u s1 ⟨H1, I1, q⟩ => ⟨H1, I1, k u H1 q⟩
theorem ps_wh {X : Cx} {c : Expr} {body : List Stmt} {tc : TT} {tb : TS} {pos : Pos} (hp : PassesOwn (model X.prog X.w) X.A X.env X.xe) (hc : PT X c tc) (hb : PSs X body tb) : PS X (.While c body [] pos) (WH tc tb) := by
  intro pins s σ H D I ⟨Pv, μ, h0, hs⟩
  refine ps_while hp hc.mo hb pins s σ H D I (while_by Pv μ h0 (fun σ H q => ⟨_, hs σ H q, fun _ _ z => z⟩) fun σ H Q Q' k ⟨Q0, h0, k0⟩ => ⟨Q0, h0, fun b H1 z => k b H1 (k0 b H1 z)⟩)
end L2
namespace L2
open PySem PySem.Spec PyProof.Rows
theorem kit_int_int (K : PySem.W.Frag) : PySem.W.kitOne K (.type "int") (.type "int") = some true := by
  unfold PySem.W.kitOne
  rw [if_pos (by decide)]
theorem kit_tup_tup (K : PySem.W.Frag) : PySem.W.kitOne K (.type "tuple") (.type "tuple") = some true := by
  unfold PySem.W.kitOne
  rw [if_pos (by decide)]
theorem kit_int_bool (K : PySem.W.Frag) : PySem.W.kitOne K (.type "int") (.type "bool") = some false := by
  unfold PySem.W.kitOne
  rw [if_neg (by decide)]
  show (if PySem.W.kitMeta "bool" = true then (fastBuiltinMro "int").map (·.contains (.type "bool")) else none) = some false
  decide +kernel
section
variable {K : PySem.W.Frag} {H : Hp} {Q : VK}
theorem isi_ii {a : Int} (q : Q (.bl true) H) : rIsi K [.int a, .ty "int"] H Q := ⟨_, _, _, _, _, rfl, rfl, .of (.int a), kit_int_int K, q⟩
theorem isi_ib {a : Int} (q : Q (.bl false) H) : rIsi K [.int a, .ty "bool"] H Q := ⟨_, _, _, _, _, rfl, rfl, .of (.int a), kit_int_bool K, q⟩
end
theorem gcd_step {x y : Int} (hx : 0 ≤ x) (hy : 0 < y) : Int.gcd y (x % y) = Int.gcd x y := by
  obtain ⟨m, rfl⟩ := Int.eq_ofNat_of_zero_le hx
  obtain ⟨n, rfl⟩ := Int.eq_ofNat_of_zero_le (Int.le_of_lt hy)
  rw [← Int.natCast_emod]
  show Nat.gcd n (m % n) = Nat.gcd m n
  rw [Nat.gcd_comm n, ← Nat.gcd_rec, Nat.gcd_comm]
theorem gcd_end {x : Int} (hx : 0 ≤ x) : ((Int.gcd x 0 : Nat) : Int) = x := by
  rw [Int.gcd_zero_right]
  omega
theorem sz_le (n : Nat) (h : n ≤ 1000) : n ≤ sizeLine := Nat.le_of_lt (small1000 h)
theorem same_upd {H : Hp} {p : Addr} {o : HO} (h : H p = none) : Same H (upd H p o) := fun b u e => by rw [upd_ne (ne_of_none e h)]; exact e
theorem CO.pure1 {n : Nat} {src : Nat → Hp → V → Prop} {st : Hp → Prop} {js : List (Option Nat)} {tl : TE} {σ : St} {H1 : Hp} {Q : VK} (f : Nat → V) (hn : n ≤ 1000) (hst : ∀ H, Same H1 H → st H)
    (hel : ∀ i H x (R : VK), i < n → Same H1 H → src i H x → (∀ y H3, y = f i → Same H H3 → R y H3) → tl (some x :: cσ js σ) H R)
    (hq : ∀ D H, Same H1 H → H1 D = none → H D = some (.lst ((List.range n).map f)) → Q (.ref D) H) : CO n src st (none :: js) (gName 0) tl σ H1 Q := by
  intro D hD
  refine ⟨fun i ys σc H => (∃ r, σc = r :: cσ js σ) ∧ Same H1 H ∧ H D = some (.lst ys) ∧ ys = (List.range i).map f, ⟨⟨none, rfl⟩, same_upd hD, upd_same, rfl⟩, fun i ys σc H _ h => hst H h.2.1, ?_, ?_⟩
  · rintro i ys σc H x hi ⟨⟨r, rfl⟩, sm, hd, rfl⟩ hx
    refine hel i H x _ hi sm hx fun y H3 hy s3 => ?_
    refine ⟨s3 _ _ hd, small1000 (by simp; omega), ⟨_, rfl⟩, ?_, upd_same, ?_⟩
    · intro b o z
      rw [upd_ne (ne_of_none z hD)]
      exact s3 _ _ (sm _ _ z)
    · rw [hy, List.range_succ, List.map_append]
      rfl
  · rintro ys σc H ⟨_, sm, hd, rfl⟩
    exact ⟨hd, hq D H sm hD hd⟩
theorem neD_same {K : PySem.W.Frag} {H : Hp} {x y : V} {Q : VK} (d : Dt) (h1 : Rep K H d x) (h2 : Rep K H d y) (a : 1 ≤ d.dep) (b : d.dep ≤ 60) (q : Q (.bl false) H) : rEqD K true x y H Q := ⟨d, d, h1, h2, d.sim_refl, a, b, by rw [d.eqb_refl]; exact q⟩
theorem gcd_abs (a b : Int) : Int.gcd (if a < 0 then -a else a) (if b < 0 then -b else b) = Int.gcd a b := by
  split <;> split <;> simp
end L2
namespace Mt
structure Red (t b u v : Int) : Prop where
  pos : 1 ≤ v
  low : Int.gcd u v = 1
  eq : u * b = t * v
  ut : u.natAbs ≤ t.natAbs
  vb : v.natAbs ≤ b.natAbs
theorem red_mk {t b g u v : Int} (hg : g ≠ 0) (ht : t = g * u) (hb : b = g * v) (hv : 0 < v) (hc : Int.gcd u v = 1) : Red t b u v := by
  have h1 : 1 ≤ g.natAbs := by omega
  refine ⟨hv, hc, ?_, ?_, ?_⟩
  · rw [hb, ht, ← Int.mul_assoc, Int.mul_comm u g]
  · rw [ht, Int.natAbs_mul]
    exact Nat.le_mul_of_pos_left _ h1
  · rw [hb, Int.natAbs_mul]
    exact Nat.le_mul_of_pos_left _ h1
theorem gcd_parts {t b : Int} (hb : b ≠ 0) : ∃ u v : Int, t = (Int.gcd t b : Nat) * u ∧ b = (Int.gcd t b : Nat) * v ∧ Int.gcd u v = 1 ∧ 0 < Int.gcd t b := by
  have hp : 0 < Int.gcd t b := Int.gcd_pos_of_ne_zero_right t hb
  refine ⟨t / (Int.gcd t b : Nat), b / (Int.gcd t b : Nat), ?_, ?_, Int.gcd_ediv_gcd_ediv_gcd hp, hp⟩
  · exact (Int.mul_ediv_cancel' (Int.gcd_dvd_left t b)).symm
  · exact (Int.mul_ediv_cancel' (Int.gcd_dvd_right t b)).symm
theorem fdiv_part {x g u : Int} (hg : g ≠ 0) (h : x = g * u) : x.fdiv g = u := by rw [h, Int.mul_fdiv_cancel_left _ hg]
theorem red_pos {t b : Int} (hb : 0 < b) : Red t b (t.fdiv (Int.gcd t b : Nat)) (b.fdiv (Int.gcd t b : Nat)) := by
  obtain ⟨u, v, h1, h2, hc, hp⟩ := gcd_parts (t := t) (show b ≠ 0 by omega)
  have hg : ((Int.gcd t b : Nat) : Int) ≠ 0 := by omega
  rw [fdiv_part hg h1, fdiv_part hg h2]
  refine red_mk hg h1 h2 ?_ hc
  have hn : (0 : Int) < (Int.gcd t b : Nat) := by omega
  rcases Int.lt_trichotomy v 0 with z | z | z
  · have := Int.mul_neg_of_pos_of_neg hn z
    omega
  · rw [z, Int.mul_zero] at h2; omega
  · exact z
theorem red_neg {t b : Int} (hb : b < 0) : Red t b (t.fdiv (-(Int.gcd t b : Nat))) (b.fdiv (-(Int.gcd t b : Nat))) := by
  obtain ⟨u, v, h1, h2, hc, hp⟩ := gcd_parts (t := t) (show b ≠ 0 by omega)
  have hg : -((Int.gcd t b : Nat) : Int) ≠ 0 := by omega
  have e1 : t = -((Int.gcd t b : Nat) : Int) * (-u) := by rw [Int.neg_mul_neg]; exact h1
  have e2 : b = -((Int.gcd t b : Nat) : Int) * (-v) := by rw [Int.neg_mul_neg]; exact h2
  rw [fdiv_part hg e1, fdiv_part hg e2]
  refine red_mk hg e1 e2 ?_ (by rw [Int.gcd_neg, Int.neg_gcd]; exact hc)
  have hn : (0 : Int) < (Int.gcd t b : Nat) := by omega
  rcases Int.lt_trichotomy v 0 with z | z | z
  · omega
  · rw [z, Int.mul_zero] at h2; omega
  · have := Int.mul_pos hn z
    omega
theorem gcd_le {t b : Int} (hb : b ≠ 0) : (Int.gcd t b) ≤ b.natAbs := by
  have h : (Int.gcd t b) ∣ b.natAbs := Nat.gcd_dvd_right _ _
  exact Nat.le_of_dvd (by omega) h
end Mt
namespace Mt
structure Fr (t b : Int) : Prop where
  pos : 1 ≤ b
  low : Int.gcd t b = 1
structure Is (t b u v : Int) : Prop where
  fr : Fr u v
  eq : u * b = t * v
theorem cop {a b : Int} : Int.gcd a b = 1 ↔ Nat.Coprime a.natAbs b.natAbs := Iff.rfl
theorem cop_mul_right {k a b : Int} (h1 : Int.gcd k a = 1) (h2 : Int.gcd k b = 1) : Int.gcd k (a * b) = 1 := by
  rw [cop, Int.natAbs_mul]
  exact Nat.Coprime.mul_right h1 h2
theorem cop_dvd_left {k l a : Int} (h : Int.gcd k a = 1) (d : l ∣ k) : Int.gcd l a = 1 := by
  rw [cop] at *
  exact Nat.Coprime.coprime_dvd_left (Int.natAbs_dvd_natAbs.mpr d) h
theorem cop_dvd_right {k l a : Int} (h : Int.gcd a k = 1) (d : l ∣ k) : Int.gcd a l = 1 := by
  rw [Int.gcd_comm] at *
  exact cop_dvd_left h d
theorem cop_add_mul {a b c : Int} (h : Int.gcd a c = 1) : Int.gcd (a + b * c) c = 1 := by
  rw [Int.gcd_eq_one_iff] at *
  intro k h1 h2
  refine h k ?_ h2
  have h3 : k ∣ b * c := Int.dvd_trans h2 ⟨b, Int.mul_comm b c⟩
  have := Int.dvd_sub h1 h3
  rw [Int.add_sub_cancel] at this
  exact this
theorem cop_mul_left {k a b : Int} (h1 : Int.gcd a k = 1) (h2 : Int.gcd b k = 1) : Int.gcd (a * b) k = 1 := by
  rw [Int.gcd_comm] at *
  exact cop_mul_right h1 h2
theorem parts {t b : Int} (hb : b ≠ 0) : ∃ u v g : Int, g = (Int.gcd t b : Nat) ∧ 0 < g ∧ t = g * u ∧ b = g * v ∧ Int.gcd u v = 1 ∧ t.fdiv g = u ∧ b.fdiv g = v := by
  obtain ⟨u, v, h1, h2, hc, hp⟩ := gcd_parts (t := t) hb
  have hg : ((Int.gcd t b : Nat) : Int) ≠ 0 := by omega
  exact ⟨u, v, _, rfl, by omega, h1, h2, hc, fdiv_part hg h1, fdiv_part hg h2⟩
theorem pos_of_mul {g v b : Int} (hg : 0 < g) (h : b = g * v) (hb : 0 < b) : 0 < v := by
  rcases Int.lt_trichotomy v 0 with z | z | z
  · have := Int.mul_neg_of_pos_of_neg hg z; omega
  · rw [z, Int.mul_zero] at h; omega
  · exact z
theorem le_mul1 {g v : Int} (hg : 0 < g) (hv : 0 < v) : g ≤ g * v := by
  have h : g * 1 ≤ g * v := Int.mul_le_mul_of_nonneg_left (by omega) (by omega)
  rw [Int.mul_one] at h
  exact h
theorem plus_ok {a0 a1 b0 b1 : Int} (ha : Fr a0 a1) (hb : Fr b0 b1) :
    let p : Int := (Int.gcd a1 b1 : Nat)
    let t := a0 * b1.fdiv p + b0 * a1.fdiv p
    let r : Int := (Int.gcd t p : Nat)
    Is (a0 * b1 + b0 * a1) (a1 * b1) (t.fdiv r) (a1.fdiv p * b1.fdiv r) ∧ 0 < p ∧ 0 < r ∧ p ≤ a1 ∧ p ≤ b1 ∧ r ≤ p ∧ (b1.fdiv p).natAbs ≤ b1.natAbs ∧ (a1.fdiv p).natAbs ≤ a1.natAbs ∧ (b1.fdiv r).natAbs ≤ b1.natAbs := by
  intro p t r
  have hb1 : b1 ≠ 0 := by have := hb.pos; omega
  obtain ⟨A, B, g, eg, hg, e1, e2, cAB, f1, f2⟩ := parts (t := a1) hb1
  have ep : p = g := eg.symm
  have et : t = a0 * B + b0 * A := by show a0 * b1.fdiv p + b0 * a1.fdiv p = _; rw [ep, f1, f2]
  have hp0 : p ≠ 0 := by omega
  obtain ⟨T, D, e, ee, he, g1, g2, cTD, k1, k2⟩ := parts (t := t) hp0
  have er : r = e := ee.symm
  have hA : 0 < A := pos_of_mul hg e1 (by have := ha.pos; omega)
  have hB : 0 < B := pos_of_mul hg e2 (by have := hb.pos; omega)
  have hD : 0 < D := pos_of_mul he g2 (by omega)
  -- b1 = e * (D * B)
  have e3 : b1 = e * (D * B) := by rw [e2, ← ep, g2, Int.mul_assoc]
  have f3 : b1.fdiv r = D * B := by rw [er]; exact fdiv_part (by omega) e3
  have f4 : a1.fdiv p = A := by rw [ep]; exact f1
  have f5 : t.fdiv r = T := by rw [er]; exact k1
  -- T is prime to A, B, D
  have cA : Int.gcd t A = 1 := by
    rw [et]
    refine cop_add_mul (cop_mul_left (cop_dvd_right ha.low ⟨g, by rw [Int.mul_comm]; exact e1⟩) ?_)
    rw [Int.gcd_comm]; exact cAB
  have cB : Int.gcd t B = 1 := by
    rw [et, Int.add_comm]
    exact cop_add_mul (cop_mul_left (cop_dvd_right hb.low ⟨g, by rw [Int.mul_comm]; exact e2⟩) cAB)
  have dT : T ∣ t := ⟨e, by rw [Int.mul_comm]; exact g1⟩
  refine ⟨⟨⟨?_, ?_⟩, ?_⟩, by omega, by omega, ?_, ?_, ?_, ?_, ?_, ?_⟩
  · rw [f3, f4]
    have := Int.mul_pos hA (Int.mul_pos hD hB)
    omega
  · rw [f3, f4, f5]
    exact cop_mul_right (cop_dvd_left cA dT) (cop_mul_right cTD (cop_dvd_left cB dT))
  · rw [f3, f4, f5]
    -- T * (a1 * b1) = (a0 * b1 + b0 * a1) * (A * (D * B))
    have q1 : a0 * b1 + b0 * a1 = g * (e * T) := by
      rw [← g1, et, e1, e2, Int.mul_add]
      congr 1
      · rw [← Int.mul_assoc, Int.mul_comm a0 g, Int.mul_assoc]
      · rw [← Int.mul_assoc, Int.mul_comm b0 g, Int.mul_assoc]
    rw [q1, e3, e1]
    simp only [Int.mul_assoc, Int.mul_comm, Int.mul_left_comm]
  · rw [ep, e1]
    exact le_mul1 (by omega) (by omega)
  · rw [ep, e2]
    exact le_mul1 (by omega) (by omega)
  · rw [er, g2]
    exact le_mul1 (by omega) (by omega)
  · rw [ep, f2, e2, Int.natAbs_mul]
    exact Nat.le_mul_of_pos_left _ (by omega)
  · rw [f4, e1, Int.natAbs_mul]
    exact Nat.le_mul_of_pos_left _ (by omega)
  · rw [f3, e3, Int.natAbs_mul e]
    exact Nat.le_mul_of_pos_left _ (by omega)
theorem times_ok {a0 a1 b0 b1 : Int} (ha : Fr a0 a1) (hb : Fr b0 b1) :
    let f : Int := (Int.gcd a0 b1 : Nat)
    let s : Int := (Int.gcd b0 a1 : Nat)
    Is (a0 * b0) (a1 * b1) (a0.fdiv f * b0.fdiv s) (a1.fdiv s * b1.fdiv f) ∧ 0 < f ∧ 0 < s ∧ f ≤ b1 ∧ s ≤ a1 ∧ (a0.fdiv f).natAbs ≤ a0.natAbs ∧ (b0.fdiv s).natAbs ≤ b0.natAbs ∧ (a1.fdiv s).natAbs ≤ a1.natAbs ∧ (b1.fdiv f).natAbs ≤ b1.natAbs := by
  intro f s
  obtain ⟨A, B, g, eg, hg, e1, e2, cAB, f1, f2⟩ := parts (t := a0) (b := b1) (by have := hb.pos; omega)
  obtain ⟨C, D, k, ek, hk, e3, e4, cCD, f3, f4⟩ := parts (t := b0) (b := a1) (by have := ha.pos; omega)
  have ef : f = g := eg.symm
  have es : s = k := ek.symm
  rw [ef, es, f1, f2, f3, f4]
  have hB : 0 < B := pos_of_mul hg e2 (by have := hb.pos; omega)
  have hD : 0 < D := pos_of_mul hk e4 (by have := ha.pos; omega)
  have dA : A ∣ a0 := ⟨g, by rw [Int.mul_comm]; exact e1⟩
  have dB : B ∣ b1 := ⟨g, by rw [Int.mul_comm]; exact e2⟩
  have dC : C ∣ b0 := ⟨k, by rw [Int.mul_comm]; exact e3⟩
  have dD : D ∣ a1 := ⟨k, by rw [Int.mul_comm]; exact e4⟩
  refine ⟨⟨⟨?_, ?_⟩, ?_⟩, hg, hk, ?_, ?_, ?_, ?_, ?_, ?_⟩
  · have := Int.mul_pos hD hB; omega
  · exact cop_mul_right (cop_mul_left (cop_dvd_left (cop_dvd_right ha.low dD) dA) cCD) (cop_mul_left cAB (cop_dvd_left (cop_dvd_right hb.low dB) dC))
  · rw [e1, e2, e3, e4]
    simp only [Int.mul_assoc, Int.mul_comm, Int.mul_left_comm]
  · rw [e2]; exact le_mul1 (by omega) (by omega)
  · rw [e4]; exact le_mul1 (by omega) (by omega)
  · rw [e1, Int.natAbs_mul]; exact Nat.le_mul_of_pos_left _ (by omega)
  · rw [e3, Int.natAbs_mul]; exact Nat.le_mul_of_pos_left _ (by omega)
  · rw [e4, Int.natAbs_mul]; exact Nat.le_mul_of_pos_left _ (by omega)
  · rw [e2, Int.natAbs_mul]; exact Nat.le_mul_of_pos_left _ (by omega)
theorem Red.is {t b u v : Int} (h : Red t b u v) : Is t b u v := ⟨⟨h.pos, h.low⟩, h.eq⟩
end Mt
namespace Mt
theorem Is.rat {t b u v : Int} (h : Is t b u v) (hb : b ≠ 0) : u = (Rat.divInt t b).num ∧ v = ((Rat.divInt t b).den : Int) := by
  have hv := h.fr.pos
  have hn : v.toNat ≠ 0 := by omega
  have hc : (v.toNat : Int) = v := Int.toNat_of_nonneg (by omega)
  have hco : u.natAbs.Coprime v.toNat := by
    have := h.fr.low
    have e : v.natAbs = v.toNat := by omega
    rw [cop, e] at this
    exact this
  have e1 := Rat.num_divInt_den ⟨u, v.toNat, hn, hco⟩
  dsimp only at e1
  rw [hc] at e1
  have e2 : Rat.divInt t b = Rat.divInt u v := (Rat.divInt_eq_divInt_iff hb (by omega)).mpr (by rw [h.eq])
  rw [e2, e1]
  exact ⟨rfl, hc.symm⟩
theorem Is.dvd {t b u v : Int} (h : Is t b u v) : v ∣ b ∧ u ∣ t := by
  have e := h.eq
  have c : Nat.Coprime u.natAbs v.natAbs := h.fr.low
  constructor
  · have d : v.natAbs ∣ u.natAbs * b.natAbs := by
      rw [← Int.natAbs_mul, e, Int.natAbs_mul]
      exact Nat.dvd_mul_left _ _
    exact Int.natAbs_dvd_natAbs.mp (c.symm.dvd_of_dvd_mul_left d)
  · have d : u.natAbs ∣ v.natAbs * t.natAbs := by
      rw [← Int.natAbs_mul, Int.mul_comm, ← e, Int.natAbs_mul]
      exact Nat.dvd_mul_right _ _
    exact Int.natAbs_dvd_natAbs.mp (c.dvd_of_dvd_mul_left d)
theorem fr_rat (a : Rat) : Fr a.num a.den := ⟨by have := a.den_nz; omega, by rw [cop]; exact a.reduced⟩
theorem den_pos (a : Rat) : (0 : Int) < a.den := by have := a.den_nz; omega
theorem den_ne (a : Rat) : (a.den : Int) ≠ 0 := by have := a.den_nz; omega
theorem rat_add (a b : Rat) : Rat.divInt (a.num * b.den + b.num * a.den) (a.den * b.den) = a + b := by
  rw [← Rat.divInt_add_divInt _ _ (den_ne a) (den_ne b), Rat.num_divInt_den, Rat.num_divInt_den]
theorem rat_mul (a b : Rat) : Rat.divInt (a.num * b.num) (a.den * b.den) = a * b := by
  rw [← Rat.divInt_mul_divInt, Rat.num_divInt_den, Rat.num_divInt_den]
theorem rat_sub (a b : Rat) : Rat.divInt (a.num * b.den - b.num * a.den) (a.den * b.den) = a - b := by
  have := rat_add a (-b)
  rw [Rat.neg_num, Rat.neg_den, Int.neg_mul, ← Int.sub_eq_add_neg] at this
  rw [this, Rat.sub_eq_add_neg]
theorem rat_is (t : Int) {b : Int} (hb : b ≠ 0) : (Rat.divInt t b).num * b = t * (Rat.divInt t b).den := by
  have h := Rat.num_divInt_den (Rat.divInt t b)
  exact ((Rat.divInt_eq_divInt_iff (den_ne _) hb).mp h)
theorem rat_isI (t : Int) {b : Int} (hb : b ≠ 0) : Is t b (Rat.divInt t b).num (Rat.divInt t b).den := ⟨fr_rat _, rat_is t hb⟩
theorem rat_le (t : Int) {b : Int} (hb : b ≠ 0) : (Rat.divInt t b).num.natAbs ≤ t.natAbs ∧ ((Rat.divInt t b).den : Int).natAbs ≤ b.natAbs := by
  obtain ⟨d1, d2⟩ := (rat_isI t hb).dvd
  refine ⟨?_, Nat.le_of_dvd (by omega) (Int.natAbs_dvd_natAbs.mpr d1)⟩
  by_cases ht : t = 0
  · have e := rat_is t hb
    rw [ht, Int.zero_mul] at e
    rcases Int.mul_eq_zero.mp e with z | z
    · rw [ht, z]; exact Nat.le_refl _
    · exact absurd z hb
  · exact Nat.le_of_dvd (by omega) (Int.natAbs_dvd_natAbs.mpr d2)
def Lat (D N : Nat) (q : Rat) : Prop := ∃ m : Int, q * ((D : Int) : Rat) = m ∧ m.natAbs ≤ N
theorem Lat.dvd {D N : Nat} {q : Rat} (h : Lat D N q) (hD : D ≠ 0) : q.den ∣ D ∧ q.num.natAbs ≤ N := by
  obtain ⟨m, e, hm⟩ := h
  have e2 : q = Rat.divInt m D := by
    rw [Rat.divInt_eq_div, ← e]
    have : ((D : Int) : Rat) ≠ 0 := by
      have : (D : Int) ≠ 0 := by omega
      exact fun z => this (Rat.intCast_inj.mp z)
    grind
  have hd : (D : Int) ≠ 0 := by omega
  have l := rat_le m hd
  have d := (rat_isI m hd).dvd.1
  rw [← e2] at l d
  exact ⟨Int.natCast_dvd_natCast.mp d, Nat.le_trans l.1 hm⟩
theorem Lat.le {D N : Nat} {q : Rat} (h : Lat D N q) (hD : D ≠ 0) : q.den ≤ D := Nat.le_of_dvd (by omega) (h.dvd hD).1
theorem Lat.add {D M N : Nat} {a b : Rat} (h : Lat D M a) (k : Lat D N b) : Lat D (M + N) (a + b) := by
  obtain ⟨m, e, hm⟩ := h
  obtain ⟨n, f, hn⟩ := k
  exact ⟨m + n, by rw [Rat.add_mul, e, f, Rat.intCast_add], by omega⟩
theorem Lat.neg {D M : Nat} {a : Rat} (h : Lat D M a) : Lat D M (-a) := by
  obtain ⟨m, e, hm⟩ := h
  exact ⟨-m, by rw [Rat.neg_mul, e, Rat.intCast_neg], by omega⟩
theorem Lat.mul {D E M N : Nat} {a b : Rat} (h : Lat D M a) (k : Lat E N b) : Lat (D * E) (M * N) (a * b) := by
  obtain ⟨m, e, hm⟩ := h
  obtain ⟨n, f, hn⟩ := k
  refine ⟨m * n, ?_, by rw [Int.natAbs_mul]; exact Nat.mul_le_mul hm hn⟩
  rw [Rat.intCast_mul, ← e, ← f, Int.natCast_mul, Rat.intCast_mul]
  grind
theorem Lat.mono {D M N : Nat} {a : Rat} (h : Lat D M a) (k : M ≤ N) : Lat D N a := by
  obtain ⟨m, e, hm⟩ := h
  exact ⟨m, e, Nat.le_trans hm k⟩
theorem Lat.zero {D N : Nat} : Lat D N 0 := ⟨0, by rw [Rat.zero_mul]; rfl, Nat.zero_le _⟩
theorem Lat.of (q : Rat) : Lat q.den q.num.natAbs q := ⟨q.num, by
  have e := Rat.num_divInt_den q
  rw [Rat.divInt_eq_div] at e
  have : ((q.den : Int) : Rat) ≠ 0 := fun z => den_ne q (Rat.intCast_inj.mp z)
  generalize ((q.den : Int) : Rat) = d at *
  generalize (q.num : Rat) = n at *
  grind, Nat.le_refl _⟩
theorem Lat.up {D E M : Nat} {a : Rat} (h : Lat D M a) : Lat (D * E) (M * E) a := by
  obtain ⟨m, e, hm⟩ := h
  refine ⟨m * E, ?_, by rw [Int.natAbs_mul]; exact Nat.mul_le_mul hm (Nat.le_refl _)⟩
  rw [Rat.intCast_mul, ← e, Int.natCast_mul, Rat.intCast_mul, Rat.mul_assoc]
theorem plus_rat (a b : Rat) :
    let p : Int := (Int.gcd a.den b.den : Nat)
    let t := a.num * (b.den : Int).fdiv p + b.num * (a.den : Int).fdiv p
    let r : Int := (Int.gcd t p : Nat)
    (t.fdiv r = (a + b).num ∧ (a.den : Int).fdiv p * (b.den : Int).fdiv r = ((a + b).den : Int)) ∧ 0 < p ∧ 0 < r ∧ p ≤ a.den ∧ p ≤ b.den ∧ r ≤ p ∧ ((b.den : Int).fdiv p).natAbs ≤ (b.den : Int).natAbs ∧ ((a.den : Int).fdiv p).natAbs ≤ (a.den : Int).natAbs ∧ ((b.den : Int).fdiv r).natAbs ≤ (b.den : Int).natAbs := by
  intro p t r
  have h := plus_ok (fr_rat a) (fr_rat b)
  refine ⟨?_, h.2⟩
  have z := h.1.rat (Int.mul_ne_zero (den_ne a) (den_ne b))
  rw [rat_add] at z
  exact z
theorem times_rat (a b : Rat) :
    let f : Int := (Int.gcd a.num b.den : Nat)
    let s : Int := (Int.gcd b.num a.den : Nat)
    (a.num.fdiv f * b.num.fdiv s = (a * b).num ∧ (a.den : Int).fdiv s * (b.den : Int).fdiv f = ((a * b).den : Int)) ∧ 0 < f ∧ 0 < s ∧ f ≤ b.den ∧ s ≤ a.den ∧ (a.num.fdiv f).natAbs ≤ a.num.natAbs ∧ (b.num.fdiv s).natAbs ≤ b.num.natAbs ∧ ((a.den : Int).fdiv s).natAbs ≤ (a.den : Int).natAbs ∧ ((b.den : Int).fdiv f).natAbs ≤ (b.den : Int).natAbs := by
  intro f s
  have h := times_ok (fr_rat a) (fr_rat b)
  refine ⟨?_, h.2⟩
  have z := h.1.rat (Int.mul_ne_zero (den_ne a) (den_ne b))
  rw [rat_mul] at z
  exact z
theorem low_pos {t b : Int} (h : 0 < b) : t.fdiv (Int.gcd t b : Nat) = (Rat.divInt t b).num ∧ b.fdiv (Int.gcd t b : Nat) = ((Rat.divInt t b).den : Int) := (red_pos h).is.rat (by omega)
theorem add_le (a b : Rat) : (a + b).num.natAbs ≤ (a.num * b.den + b.num * a.den).natAbs ∧ ((a + b).den : Int).natAbs ≤ ((a.den : Int) * b.den).natAbs := by
  rw [← rat_add]; exact rat_le _ (Int.mul_ne_zero (den_ne a) (den_ne b))
theorem mul_le (a b : Rat) : (a * b).num.natAbs ≤ (a.num * b.num).natAbs ∧ ((a * b).den : Int).natAbs ≤ ((a.den : Int) * b.den).natAbs := by
  rw [← rat_mul]; exact rat_le _ (Int.mul_ne_zero (den_ne a) (den_ne b))
end Mt
namespace L2
open PySem PySem.Spec PyProof.Rows
theorem Same.seqT {K : PySem.W.Frag} {H H' : Hp} {a : Addr} {xs : List V} (e : Same H H') (h : SqT K H a xs) : SqT K H' a xs := by
  rcases h with (h | ⟨o, h⟩) | h
  · exact .inl (.inl (e _ _ h))
  · exact .inl (.inr ⟨o, e _ _ h⟩)
  · exact .inr h
def frO (q : Rat) : HO := .tup [.int q.num, .int (q.den : Int)]
def Fq (K : PySem.W.Frag) (H : Hp) (p : Addr) (q : Rat) : Prop := SqT K H p [.int q.num, .int (q.den : Int)]
theorem Fq.of {K : PySem.W.Frag} {H : Hp} {p : Addr} {q : Rat} (h : H p = some (frO q)) : Fq K H p q := SqT.of h
theorem Fq.same {K : PySem.W.Frag} {H H' : Hp} {p : Addr} {q : Rat} (h : Fq K H p q) (e : Same H H') : Fq K H' p q := e.seqT h
def rFqI (K : PySem.W.Frag) : R2 := fun x y H Q => ∃ p a, x = .ref p ∧ Fq K H p a ∧ ((y = .int 0 ∧ Q (.int a.num) H) ∨ (y = .int 1 ∧ Q (.int (a.den : Int)) H))
theorem ix_fq {X : Cx} : IxR X (rFqI X.K) := by
  intro value slice pins s σ H x y v u Q I rx ry h hs
  obtain ⟨p, a, rfl, hq, ⟨rfl, q⟩ | ⟨rfl, q⟩⟩ := h
  · exact ix_tup value slice pins s σ H _ _ v u Q I rx ry ⟨p, _, 0, _, rfl, rfl, hq, rfl, q⟩ hs
  · exact ix_tup value slice pins s σ H _ _ v u Q I rx ry ⟨p, _, 1, _, rfl, rfl, hq, rfl, q⟩ hs
theorem frO_int (n : Int) : frO (n : Rat) = .tup [.int n, .int 1] := by simp [frO]
structure Sz (n : Nat) (q : Rat) : Prop where
  t : Bd n q.num
  b : Bd n (q.den : Int)
theorem Sz.mono {m n : Nat} {q : Rat} (h : Sz m q) (l : m ≤ n) : Sz n q := ⟨h.t.mono l, h.b.mono l⟩
theorem Sz.low {n : Nat} {t b : Int} (hb : b ≠ 0) (h1 : Bd n t) (h2 : Bd n b) : Sz n (Rat.divInt t b) := ⟨h1.le (Mt.rat_le t hb).1, h2.le (Mt.rat_le t hb).2⟩
theorem Sz.int {n : Nat} {t : Int} (h : Bd n t) (h1 : 1 ≤ n) : Sz n (t : Rat) := ⟨by simpa using h, by simp; exact Bd.mono (m := 1) (by show (_ : Nat) < _; decide) h1⟩
theorem Sz.add {m n : Nat} {a b : Rat} (ha : Sz m a) (hb : Sz n b) : Sz (m + n + 1) (a + b) := by
  refine ⟨?_, ?_⟩
  · refine Bd.le ?_ (Mt.add_le a b).1
    have h1 := ha.t.mul hb.b
    have h2 := hb.t.mul ha.b
    rw [Nat.add_comm n m] at h2
    exact h1.add h2
  · refine Bd.le ?_ (Mt.add_le a b).2
    exact (ha.b.mul hb.b).mono (by omega)
theorem Sz.mul {m n : Nat} {a b : Rat} (ha : Sz m a) (hb : Sz n b) : Sz (m + n) (a * b) :=
  ⟨Bd.le (ha.t.mul hb.t) (Mt.mul_le a b).1, Bd.le (ha.b.mul hb.b) (Mt.mul_le a b).2⟩
theorem Sz.neg {n : Nat} {a : Rat} (h : Sz n a) : Sz n (-a) := ⟨by rw [Rat.neg_num]; exact h.t.neg, by rw [Rat.neg_den]; exact h.b⟩
theorem Sz.sub {m n : Nat} {a b : Rat} (ha : Sz m a) (hb : Sz n b) : Sz (m + n + 1) (a - b) := by rw [Rat.sub_eq_add_neg]; exact ha.add hb.neg
theorem Bd.dv {i j : Int} {n : Nat} (h : Bd n j) (z : j ≠ 0) (l : n ≤ 9000 := by decide) : CDivB i j := ⟨z, h.mono l⟩
theorem Bd.mu {i j : Int} {m n : Nat} (h : Bd m i) (k : Bd n j) (l : m ≤ 100000 := by decide) (l' : n ≤ 100000 := by decide) : CMulB i j := ⟨h.mono l, k.mono l'⟩
theorem tSeq_step {t u : TS} {D : Ends} {σ : St} {H : Hp} (h : ∀ N : St → Hp → Prop, (∀ σ H, u D σ H → N σ H) → t { D with nx := N } σ H) : tSeq t u D σ H := h (u D) fun _ _ z => z
end L2
namespace Mt
def cf (l : List Rat) (n : Nat) : Rat := l.getD n 0
def trim : List Rat → List Rat
  | [] => []
  | a :: l => if trim l = [] ∧ a = 0 then [] else a :: trim l
def NZ (l : List Rat) : Prop := l = [] ∨ cf l (l.length - 1) ≠ 0
theorem cf_nil (n : Nat) : cf [] n = 0 := by simp [cf]
theorem cf_zero (a : Rat) (l : List Rat) : cf (a :: l) 0 = a := by simp [cf]
theorem cf_succ (a : Rat) (l : List Rat) (n : Nat) : cf (a :: l) (n + 1) = cf l n := by simp [cf]
theorem cf_ge {l : List Rat} {n : Nat} (h : l.length ≤ n) : cf l n = 0 := by simp [cf, List.getD, List.getElem?_eq_none h]
theorem cf_at {l : List Rat} {n : Nat} {x : Rat} (h : l[n]? = some x) : cf l n = x := by simp [cf, List.getD, h]
theorem cf_lt {l : List Rat} {n : Nat} (h : n < l.length) : l[n]? = some (cf l n) := by simp [cf, List.getD, h]
theorem cf_trim : ∀ (l : List Rat) (n : Nat), cf (trim l) n = cf l n
  | [], n => rfl
  | a :: l, n => by
    rw [trim]
    split
    · rename_i h
      cases n with
      | zero => rw [cf_zero, cf_nil, h.2]
      | succ n => rw [cf_succ, cf_nil, ← cf_trim l n, h.1, cf_nil]
    · cases n with
      | zero => rw [cf_zero, cf_zero]
      | succ n => rw [cf_succ, cf_succ, cf_trim l n]
theorem NZ.cons {a : Rat} {l : List Rat} (h : NZ l) (k : ¬ (l = [] ∧ a = 0)) : NZ (a :: l) := by
  right
  rcases h with h | h
  · subst h
    simp only [List.length_cons, List.length_nil, Nat.zero_add, Nat.sub_self, cf_zero]
    intro z; exact k ⟨rfl, z⟩
  · cases l with
    | nil => exact absurd (cf_nil _) h
    | cons b r =>
      simp only [List.length_cons, Nat.add_sub_cancel] at *
      rw [cf_succ]; exact h
theorem NZ_trim : ∀ l : List Rat, NZ (trim l)
  | [] => .inl rfl
  | a :: l => by
    rw [trim]
    split
    · exact .inl rfl
    · rename_i h; exact (NZ_trim l).cons h
theorem NZ.len {l m : List Rat} (hl : NZ l) (h : ∀ n, cf l n = cf m n) : l.length ≤ m.length := by
  rcases hl with rfl | hl
  · exact Nat.zero_le _
  · rcases Nat.lt_or_ge m.length l.length with z | z
    · rw [h, cf_ge (by omega)] at hl
      exact absurd rfl hl
    · exact z
theorem NZ.ext {l m : List Rat} (hl : NZ l) (hm : NZ m) (h : ∀ n, cf l n = cf m n) : l = m := by
  have e : l.length = m.length := Nat.le_antisymm (hl.len h) (hm.len fun n => (h n).symm)
  refine List.ext_getElem? fun i => ?_
  rcases Nat.lt_or_ge i l.length with z | z
  · rw [cf_lt z, cf_lt (l := m) (by omega), h]
  · rw [List.getElem?_eq_none z, List.getElem?_eq_none (by omega)]
theorem trim_NZ {l : List Rat} (h : NZ l) : trim l = l := (NZ_trim l).ext h fun n => cf_trim l n
theorem cf_take {l : List Rat} {k n : Nat} : cf (l.take k) n = if n < k then cf l n else 0 := by
  split
  · rename_i h; simp [cf, List.getD, List.getElem?_take, h]
  · rename_i h; simp [cf, List.getD, List.getElem?_take, h]
def addL (f g : List Rat) : List Rat := (List.range (max f.length g.length)).map fun n => cf f n + cf g n
theorem cf_map_range (m : Nat) (F : Nat → Rat) (n : Nat) : cf ((List.range m).map F) n = if n < m then F n else 0 := by
  split
  · rename_i h; simp [cf, List.getD, h]
  · rename_i h; exact cf_ge (by simp; omega)
theorem cf_addL (f g : List Rat) (n : Nat) : cf (addL f g) n = cf f n + cf g n := by
  rw [addL, cf_map_range]
  split
  · rfl
  · rename_i h; rw [cf_ge (l := f) (by omega), cf_ge (l := g) (by omega)]; grind
theorem cf_map (F : Rat → Rat) (h0 : F 0 = 0) (f : List Rat) (n : Nat) : cf (f.map F) n = F (cf f n) := by
  rcases Nat.lt_or_ge n f.length with z | z
  · exact cf_at (by rw [List.getElem?_map, cf_lt z]; rfl)
  · rw [cf_ge (by simpa using z), cf_ge z, h0]
def padd (f g : List Rat) : List Rat := trim (addL f g)
def pscale (f : List Rat) (a : Rat) : List Rat := trim (f.map (· * a))
def psub (f g : List Rat) : List Rat := padd f (pscale g (-1))
theorem cf_padd (f g : List Rat) (n : Nat) : cf (padd f g) n = cf f n + cf g n := by rw [padd, cf_trim, cf_addL]
theorem cf_pscale (f : List Rat) (a : Rat) (n : Nat) : cf (pscale f a) n = cf f n * a := by rw [pscale, cf_trim, cf_map _ (Rat.zero_mul a)]
theorem cf_psub (f g : List Rat) (n : Nat) : cf (psub f g) n = cf f n - cf g n := by
  rw [psub, cf_padd, cf_pscale]; grind
theorem NZ_psub (f g : List Rat) : NZ (psub f g) := NZ_trim _
end Mt
namespace Mt
def mc : List Rat → List Rat → Nat → Rat
  | [], _, _ => 0
  | a :: _, g, 0 => a * cf g 0
  | a :: f, g, n + 1 => a * cf g (n + 1) + mc f g n
theorem mc_nil_left (g : List Rat) (n : Nat) : mc [] g n = 0 := by cases n <;> rfl
theorem mc_ext : ∀ (f : List Rat) {g h : List Rat} (_ : ∀ n, cf g n = cf h n) (n : Nat), mc f g n = mc f h n
  | [], _, _, _, n => by rw [mc_nil_left, mc_nil_left]
  | a :: f, g, h, e, 0 => by rw [mc, mc, e]
  | a :: f, g, h, e, n + 1 => by rw [mc, mc, e, mc_ext f e n]
theorem mc_nil_right : ∀ (f : List Rat) (n : Nat), mc f [] n = 0
  | [], n => mc_nil_left _ n
  | a :: f, 0 => by rw [mc, cf_nil]; grind
  | a :: f, n + 1 => by rw [mc, cf_nil, mc_nil_right f n]; grind
theorem mc_cons_right : ∀ (f : List Rat) (b : Rat) (g : List Rat) (n : Nat), mc f (b :: g) n = cf f n * b + (match n with | 0 => 0 | n + 1 => mc f g n)
  | [], b, g, 0 => by rw [mc_nil_left, cf_nil]; grind
  | [], b, g, n + 1 => by rw [mc_nil_left, cf_nil]; simp only [mc_nil_left]; grind
  | a :: f, b, g, 0 => by rw [mc, cf_zero, cf_zero]; grind
  | a :: f, b, g, n + 1 => by
    rw [mc, cf_succ, mc_cons_right f b g n, cf_succ]
    cases n with
    | zero => simp only [mc]; grind
    | succ n => simp only [mc]; grind
theorem mc_comm : ∀ (f g : List Rat) (n : Nat), mc f g n = mc g f n
  | [], g, n => by rw [mc_nil_left, mc_nil_right]
  | a :: f, g, 0 => by rw [mc, mc_cons_right]; grind
  | a :: f, g, n + 1 => by rw [mc, mc_cons_right, mc_comm f g n]; grind
def addAt (l : List Rat) (k : Nat) (x : Rat) : List Rat := l.set k (cf l k + x)
def rowIn (l : List Rat) (i : Nat) (a : Rat) (g : List Rat) (j : Nat) : List Rat := (List.range j).foldl (fun l j => addAt l (i + j) (a * cf g j)) l
def prodIn (f g : List Rat) (i : Nat) : List Rat := (List.range i).foldl (fun l i => rowIn l i (cf f i) g g.length) (List.replicate (f.length + g.length) 0)
theorem rowIn_zero (l : List Rat) (i : Nat) (a : Rat) (g : List Rat) : rowIn l i a g 0 = l := rfl
theorem rowIn_succ (l : List Rat) (i : Nat) (a : Rat) (g : List Rat) (j : Nat) : rowIn l i a g (j + 1) = addAt (rowIn l i a g j) (i + j) (a * cf g j) := by simp [rowIn, List.range_succ]
theorem prodIn_zero (f g : List Rat) : prodIn f g 0 = List.replicate (f.length + g.length) 0 := rfl
theorem prodIn_succ (f g : List Rat) (i : Nat) : prodIn f g (i + 1) = rowIn (prodIn f g i) i (cf f i) g g.length := by simp [prodIn, List.range_succ]
theorem addAt_len (l : List Rat) (k : Nat) (x : Rat) : (addAt l k x).length = l.length := by simp [addAt]
theorem rowIn_len (l : List Rat) (i : Nat) (a : Rat) (g : List Rat) : ∀ j, (rowIn l i a g j).length = l.length
  | 0 => rfl
  | j + 1 => by rw [rowIn_succ, addAt_len, rowIn_len l i a g j]
theorem prodIn_len (f g : List Rat) : ∀ i, (prodIn f g i).length = f.length + g.length
  | 0 => by simp [prodIn_zero]
  | i + 1 => by rw [prodIn_succ, rowIn_len, prodIn_len f g i]
theorem cf_addAt {l : List Rat} {k : Nat} (h : k < l.length) (x : Rat) (n : Nat) : cf (addAt l k x) n = if n = k then cf l n + x else cf l n := by
  split
  · rename_i e; subst e
    exact cf_at (by simp [addAt, h])
  · rename_i e
    simp only [cf, addAt, List.getD]
    rw [List.getElem?_set_ne (by omega)]
theorem cf_rowIn {l : List Rat} {i : Nat} (a : Rat) (g : List Rat) (n : Nat) : ∀ j, i + j ≤ l.length → cf (rowIn l i a g j) n = cf l n + (if i ≤ n ∧ n < i + j then a * cf g (n - i) else 0)
  | 0, _ => by rw [rowIn_zero, if_neg (by omega)]; grind
  | j + 1, h => by
    rw [rowIn_succ, cf_addAt (by rw [rowIn_len]; omega), cf_rowIn a g n j (by omega)]
    by_cases e : n = i + j
    · rw [if_pos e, if_neg (by omega), if_pos (by omega), show n - i = j by omega]; grind
    · rw [if_neg e]
      by_cases e2 : i ≤ n ∧ n < i + j
      · rw [if_pos e2, if_pos (by omega)]
      · rw [if_neg e2, if_neg (by omega)]
theorem cf_replicate (m n : Nat) : cf (List.replicate m 0) n = 0 := by
  rcases Nat.lt_or_ge n m with z | z
  · exact cf_at (by simp [z])
  · exact cf_ge (by simpa using z)
theorem mc_take_succ : ∀ (f g : List Rat) (i n : Nat), i < f.length → mc (f.take (i + 1)) g n = mc (f.take i) g n + (if i ≤ n then cf f i * cf g (n - i) else 0)
  | [], g, i, n, h => by simp at h
  | a :: f, g, 0, n, h => by
    rw [List.take_succ_cons, List.take_zero, List.take_zero, mc_nil_left, if_pos (by omega), cf_zero]
    cases n with
    | zero => simp only [mc, Nat.sub_self]; grind
    | succ n => simp only [mc, mc_nil_left, Nat.sub_zero]; grind
  | a :: f, g, i + 1, 0, h => by
    rw [List.take_succ_cons, List.take_succ_cons, mc, mc, if_neg (by omega)]; grind
  | a :: f, g, i + 1, n + 1, h => by
    simp only [List.length_cons] at h
    rw [List.take_succ_cons, List.take_succ_cons, mc, mc, mc_take_succ f g i n (by omega), cf_succ]
    by_cases e : i ≤ n
    · rw [if_pos e, if_pos (by omega), show n + 1 - (i + 1) = n - i by omega]; grind
    · rw [if_neg e, if_neg (by omega)]; grind
theorem cf_prodIn (f g : List Rat) (n : Nat) : ∀ i, i ≤ f.length → cf (prodIn f g i) n = mc (f.take i) g n
  | 0, _ => by rw [prodIn_zero, cf_replicate, List.take_zero, mc_nil_left]
  | i + 1, h => by
    rw [prodIn_succ, cf_rowIn _ _ _ _ (by rw [prodIn_len]; omega), cf_prodIn f g n i (by omega), mc_take_succ f g i n (by omega)]
    congr 1
    by_cases e : i ≤ n ∧ n < i + g.length
    · rw [if_pos e, if_pos e.1]
    · rw [if_neg e]
      split
      · rw [cf_ge (l := g) (by omega)]; grind
      · rfl
def pmul (f g : List Rat) : List Rat := trim (prodIn f g f.length)
theorem cf_pmul (f g : List Rat) (n : Nat) : cf (pmul f g) n = mc f g n := by rw [pmul, cf_trim, cf_prodIn f g n _ (Nat.le_refl _), List.take_length]
end Mt
namespace HT
open PySem PyProof.Rows
section
variable {prog : Program} {w : World} {A : Around} {E : Value → Shared → Prop} {s : Shared}
end
end HT
namespace L2
open PySem PySem.Spec PyProof.Rows
theorem cutV_to (xs : List V) (k : Nat) (h : k ≤ xs.length) : cutV xs none (some (k : Int)) = xs.take k := by
  unfold cutV
  rw [HT.sIx_none, HT.sIx_nat, Nat.min_eq_left h]
  simp
theorem cutV_from (xs : List V) (k : Nat) (h : k ≤ xs.length) : cutV xs (some (k : Int)) none = xs.drop k := by
  unfold cutV
  rw [HT.sIx_none, HT.sIx_nat, Nat.min_eq_left h, List.take_of_length_le (by simp)]
theorem atI_end {α : Type} {xs : List α} {v : α} (h : xs[xs.length - 1]? = some v) : atI xs (-1) = some v := by
  have hne : xs ≠ [] := by rintro rfl; simp at h
  have e := List.dropLast_concat_getLast hne
  rw [← e, atI_last]
  rw [List.getLast_eq_getElem hne]
  obtain ⟨h1, h2⟩ := List.getElem?_eq_some_iff.mp h
  exact congrArg some h2
theorem pe_comp2 {X : Cx} {elt iter tg : Expr} {scope : Scope} (Nl : List Str) (y1 : Str) (j1 : Nat) (y2 : Str) (j2 : Nat) {c1 c2 : Addr} {wi : TI} {g : TG} {te : TE} {pos : Pos} (hc : X.calm = true) (hi : PI X tg iter wi)
    (hg : ∀ C s₀ H₀ ex pn, PG (X.cp (Nl ++ [y1, y2]) scope [(y1, c1), (y2, c2)] C s₀ H₀ ex pn) tg g) (he : ∀ C s₀ H₀ ex pn, PE (X.cp (Nl ++ [y1, y2]) scope [(y1, c1), (y2, c2)] C s₀ H₀ ex pn) elt te)
    (hclos : closureFor scope X.env = pure [(y1, c1), (y2, c2)]) (hy1 : X.env.cells.lookup y1 = some c1) (hy2 : X.env.cells.lookup y2 = some c2) (hN1 : X.N[j1]? = some y1) (hN2 : X.N[j2]? = some y2)
    (hk1 : X.env.kindOf y1 = some .cell) (hk2 : X.env.kindOf y2 = some .cell) (hb1 : (relabel scope X.env).names.lookup y1 = some .cell) (hb2 : (relabel scope X.env).names.lookup y2 = some .cell)
    (hne : y2 ≠ y1 := by decide) (h1 : ∀ p ∈ scope.names, p.2 = .free → p.1 = y1 ∨ p.1 = y2 := by decide +kernel) (hcell : ∀ y ∈ scope.names, y.2 ≠ .cell := by decide +kernel) (hkind : scope.kind = .function := by rfl)
    (hnames : ∀ y ∈ scope.names, y.2 = .local → scope.names.lookup y.1 = some .local := by decide +kernel)
    (hs : ∀ x, foldedSetIterable iter X.env x = pure x := by intro _; rfl) : PCo X (.ListComp elt [⟨tg, iter, [], 0⟩] scope pos) scope iter (tComp ((Nl.map fun _ => none) ++ [some j1, some j2]) wi g te) := by
  have self1 : List.lookup y1 [(y1, c1), (y2, c2)] = some c1 := by simp
  have self2 : List.lookup y2 [(y1, c1), (y2, c2)] = some c2 := by
    rw [List.lookup_cons, show (y2 == y1) = false from beq_eq_false_iff_ne.mpr hne]; simp
  have look : ∀ z d, List.lookup z [(y1, c1), (y2, c2)] = some d → (z = y1 ∧ d = c1) ∨ (z = y2 ∧ d = c2) := fun z d h => by
    have m := PySem.mem_of_lookup h
    rcases List.mem_cons.mp m with q | q
    · cases q; exact .inl ⟨rfl, rfl⟩
    · cases List.mem_singleton.mp q; exact .inr ⟨rfl, rfl⟩
  refine pe_comp (cl := [(y1, c1), (y2, c2)]) (Nc := Nl ++ [y1, y2]) hc hi hg he (by simp) (fun z d h => ?_) (fun z h => ?_) (fun i z j' e1 e2 => ?_) hclos hcell hkind hnames hs
  · rcases look z d h with ⟨rfl, rfl⟩ | ⟨rfl, rfl⟩
    · exact hy1
    · exact hy2
  · have m := h.elim (fun q => rel_mem q (.inl rfl) hcell) fun q => rel_mem q (.inr rfl) hcell
    rcases h1 _ m rfl with e | e
    · have e : z = y1 := e
      subst e; exact ⟨c1, self1⟩
    · have e : z = y2 := e
      subst e; exact ⟨c2, self2⟩
  · have hi : i = Nl.length ∨ i = Nl.length + 1 := by
      by_cases hlt : i < Nl.length
      · rw [List.getElem?_append_left (by simpa using hlt), List.getElem?_map] at e2
        cases q : Nl[i]? with
        | none => rw [q] at e2; cases e2
        | some z => rw [q] at e2; cases e2
      · have := (List.getElem?_eq_some_iff.mp e1).1
        simp at this
        omega
    rcases hi with rfl | rfl
    · have a1 : (Nl ++ [y1, y2])[Nl.length]? = some y1 := by simp
      have a2 : ((Nl.map fun _ => (none : Option Nat)) ++ [some j1, some j2])[Nl.length]? = some (some j1) := by
        rw [List.getElem?_append_right (by simp)]; simp
      rw [a1] at e1; cases e1
      rw [a2] at e2; cases e2
      exact ⟨hN1, .inr (.inl hk1), by rw [hk1]; exact (fun q => nomatch q), .inl hb1, fun d h => by rw [hy1] at h; cases h; exact self1⟩
    · have a1 : (Nl ++ [y1, y2])[Nl.length + 1]? = some y2 := by
        rw [List.getElem?_append_right (by omega)]; simp
      have a2 : ((Nl.map fun _ => (none : Option Nat)) ++ [some j1, some j2])[Nl.length + 1]? = some (some j2) := by
        rw [List.getElem?_append_right (by simp)]; simp
      rw [a1] at e1; cases e1
      rw [a2] at e2; cases e2
      exact ⟨hN2, .inr (.inl hk2), by rw [hk2]; exact (fun q => nomatch q), .inl hb2, fun d h => by rw [hy2] at h; cases h; exact self2⟩
mutual
theorem Rep.same {K : PySem.W.Frag} {H H' : Hp} (e : Same H H') : ∀ (d : Dt) (v : V), Rep K H d v → Rep K H' d v := by
  intro d v h
  match d with
  | .non => simp only [Rep] at *; exact h
  | .bl _ => simp only [Rep] at *; exact h
  | .int _ => simp only [Rep] at *; exact h
  | .str _ => simp only [Rep] at *; exact h
  | .tup l => simp only [Rep] at *; obtain ⟨a, xs, rfl, s, r⟩ := h; exact ⟨a, xs, rfl, e.seqT s, Reps.same e l xs r⟩
  | .lst l => simp only [Rep] at *; obtain ⟨a, xs, rfl, s, r⟩ := h; exact ⟨a, xs, rfl, e.seq s, Reps.same e l xs r⟩
theorem Reps.same {K : PySem.W.Frag} {H H' : Hp} (e : Same H H') : ∀ (l : List Dt) (xs : List V), Reps K H l xs → Reps K H' l xs := by
  intro l xs h
  match l with
  | [] => simp only [Reps] at *; exact h
  | d :: l => simp only [Reps] at *; obtain ⟨x, r, rfl, h1, h2⟩ := h; exact ⟨x, r, rfl, Rep.same e d x h1, Reps.same e l r h2⟩
end
def frD (q : Rat) : Dt := .tup [.int q.num, .int (q.den : Int)]
def polyD (f : List Rat) : Dt := .tup (f.map frD)
def lstD (f : List Rat) : Dt := .lst (f.map frD)
theorem rep_fr {K : PySem.W.Frag} {H : Hp} {p : Addr} {q : Rat} (h : Fq K H p q) : Rep K H (frD q) (.ref p) := by
  simp only [frD, Rep, Reps]
  exact ⟨p, _, rfl, h, _, _, rfl, rfl, _, _, rfl, rfl, rfl⟩
theorem rep_fr' {K : PySem.W.Frag} {H : Hp} {v : V} {q : Rat} (h : Rep K H (frD q) v) : ∃ p, v = .ref p ∧ Fq K H p q := by
  simp only [frD, Rep, Reps] at h
  obtain ⟨p, xs, rfl, s, x, r, rfl, rfl, y, r2, rfl, rfl, rfl⟩ := h
  exact ⟨p, rfl, s⟩
theorem frD_eqb (a b : Rat) : (frD a).eqb (frD b) = decide (a = b) := by
  simp only [frD, Dt.eqb, Dt.eqbs, Bool.and_true]
  rw [Bool.eq_iff_iff]
  simp only [Bool.and_eq_true, beq_iff_eq, decide_eq_true_eq]
  constructor
  · rintro ⟨h1, h2⟩
    exact Rat.ext h1 (by omega)
  · rintro rfl; exact ⟨rfl, rfl⟩
theorem frD_sim (a b : Rat) : (frD a).sim (frD b) = true := by simp [frD, Dt.sim, Dt.sims]
theorem frD_dep (a : Rat) : (frD a).dep = 1 := by simp [frD, Dt.dep, Dt.deps]
theorem frDs_dep : ∀ f : List Rat, Dt.deps (f.map frD) ≤ 1
  | [] => by simp [Dt.deps]
  | a :: f => by rw [List.map_cons, Dt.deps, frD_dep]; exact Nat.max_le.mpr ⟨Nat.le_refl _, frDs_dep f⟩
section
variable {K : PySem.W.Frag} {H : Hp} {x y : V} {Q : VK}
theorem fr_cmp {ne : Bool} {a b : Rat} (h1 : Rep K H (frD a) x) (h2 : Rep K H (frD b) y) (q : Q (.bl (if ne then !decide (a = b) else decide (a = b))) H) : rEqD K ne x y H Q :=
  ⟨_, _, h1, h2, frD_sim a b, by rw [frD_dep]; decide, by rw [frD_dep]; decide, by rw [frD_eqb]; exact q⟩
end
def rIsiT (K : PySem.W.Frag) : List V → Hp → VK → Prop := fun xs H Q => ∃ a ys c cv b, xs = [.ref a, c] ∧ clsV c = some cv ∧ SqT K H a ys ∧ PySem.W.kitOne K (.type "tuple") cv = some b ∧ Q (.bl b) H
theorem call_isiT {X : Cx} : CallR X (.builtin "isinstance") (rIsiT X.K) := by
  intro pins s σ H xs us Q I r h
  obtain ⟨a, ys, c, cv, b, rfl, hc, hq, hk, q⟩ := h
  obtain ⟨u, u', rfl, r1, r2⟩ := vals2 r
  have e2 : u' = cv := by
    cases c with
    | ref C => cases hc; exact r2
    | ty n => cases hc; exact r2
    | _ => cases hc
  subst e2
  cases (show u = Value.ref a from r1)
  obtain ⟨its, _, ⟨o, h1, h2, _⟩, _⟩ := I.tuple hq
  exact PySem.W.kia_one PySem.W.kitx_tuple I.kIn ⟨o, h1, h2⟩ hk (fun z => nomatch z) fun tk => ⟨.bl b, H, I.tok tk, rfl, q⟩
theorem isi_sq {K : PySem.W.Frag} {H : Hp} {Q : VK} {a : Addr} {ys : List V} (h : SqT K H a ys) (q : Q (.bl true) H) : rIsiT K [.ref a, .ty "tuple"] H Q := ⟨a, ys, _, _, true, rfl, rfl, h, kit_tup_tup K, q⟩
def Frs (K : PySem.W.Frag) (H : Hp) (f : List Rat) (xs : List V) : Prop := Reps K H (f.map frD) xs
theorem SqT.updL {K : PySem.W.Frag} {H : Hp} {D p : Addr} {ys xs : List V} {o : HO} (hD : H D = some (.lst ys)) (h : SqT K H p xs) : SqT K (upd H D o) p xs := by
  rcases h with (h | ⟨u, h⟩) | h
  · exact .inl (.inl (by rw [upd_ne (by rintro rfl; rw [hD] at h; cases h)]; exact h))
  · exact .inl (.inr ⟨u, by rw [upd_ne (by rintro rfl; rw [hD] at h; cases h)]; exact h⟩)
  · exact .inr h
theorem Frs.same {K : PySem.W.Frag} {H H' : Hp} {f : List Rat} {xs : List V} (h : Frs K H f xs) (e : Same H H') : Frs K H' f xs := Reps.same e _ _ h
theorem Frs.nil {K : PySem.W.Frag} {H : Hp} : Frs K H [] [] := by simp [Frs, Reps]
theorem Frs.cons {K : PySem.W.Frag} {H : Hp} {q : Rat} {f : List Rat} {p : Addr} {xs : List V} (h : Fq K H p q) (k : Frs K H f xs) : Frs K H (q :: f) (.ref p :: xs) := by
  simp only [Frs, List.map_cons, Reps]
  exact ⟨_, _, rfl, rep_fr h, k⟩
theorem Frs.uncons {K : PySem.W.Frag} {H : Hp} {q : Rat} {f : List Rat} {xs : List V} (h : Frs K H (q :: f) xs) : ∃ p ys, xs = .ref p :: ys ∧ Fq K H p q ∧ Frs K H f ys := by
  simp only [Frs, List.map_cons, Reps] at h
  obtain ⟨x, r, rfl, h1, h2⟩ := h
  obtain ⟨p, rfl, h3⟩ := rep_fr' h1
  exact ⟨p, r, rfl, h3, h2⟩
theorem Frs.len {K : PySem.W.Frag} {H : Hp} {f : List Rat} {xs : List V} (h : Frs K H f xs) : f.length = xs.length := by
  have := Reps.len h
  simpa using this
theorem Frs.at {K : PySem.W.Frag} {H : Hp} {f : List Rat} {xs : List V} (h : Frs K H f xs) {j : Nat} (hj : j < f.length) : ∃ p, xs[j]? = some (.ref p) ∧ Fq K H p (Mt.cf f j) := by
  obtain ⟨x, e, r⟩ := Reps.at (d := frD (Mt.cf f j)) h (by rw [List.getElem?_map, Mt.cf_lt hj]; rfl)
  obtain ⟨p, rfl, q⟩ := rep_fr' r
  exact ⟨p, e, q⟩
theorem Frs.snoc {K : PySem.W.Frag} {H : Hp} {q : Rat} {p : Addr} : ∀ {f : List Rat} {xs : List V}, Frs K H f xs → Fq K H p q → Frs K H (f ++ [q]) (xs ++ [.ref p])
  | [], xs, h, k => by
    have e : xs = [] := by simpa [Frs, Reps] using h
    subst e
    exact Frs.cons k Frs.nil
  | a :: f, xs, h, k => by
    obtain ⟨r, ys, rfl, h1, h2⟩ := h.uncons
    exact Frs.cons h1 (Frs.snoc h2 k)
theorem Frs.updL {K : PySem.W.Frag} {H : Hp} {D : Addr} {ys : List V} {o : HO} (hD : H D = some (.lst ys)) : ∀ {f : List Rat} {xs : List V}, Frs K H f xs → Frs K (upd H D o) f xs
  | [], xs, h => by
    have e : xs = [] := by simpa [Frs, Reps] using h
    subst e
    exact Frs.nil
  | a :: f, xs, h => by
    obtain ⟨r, zs, rfl, h1, h2⟩ := h.uncons
    exact Frs.cons (SqT.updL hD h1) (Frs.updL hD h2)
theorem Frs.take {K : PySem.W.Frag} {H : Hp} : ∀ {f : List Rat} {xs : List V} (k : Nat), Frs K H f xs → Frs K H (f.take k) (xs.take k)
  | [], xs, k, h => by
    have e : xs = [] := by simpa [Frs, Reps] using h
    subst e
    simp only [List.take_nil]; exact Frs.nil
  | a :: f, xs, 0, h => by simp only [List.take_zero]; exact Frs.nil
  | a :: f, xs, k + 1, h => by
    obtain ⟨r, zs, rfl, h1, h2⟩ := h.uncons
    simp only [List.take_succ_cons]
    exact Frs.cons h1 (Frs.take k h2)
theorem Frs.drop {K : PySem.W.Frag} {H : Hp} : ∀ {f : List Rat} {xs : List V} (k : Nat), Frs K H f xs → Frs K H (f.drop k) (xs.drop k)
  | [], xs, k, h => by
    have e : xs = [] := by simpa [Frs, Reps] using h
    subst e
    simp only [List.drop_nil]; exact Frs.nil
  | a :: f, xs, 0, h => h
  | a :: f, xs, k + 1, h => by
    obtain ⟨r, zs, rfl, h1, h2⟩ := h.uncons
    simp only [List.drop_succ_cons]
    exact Frs.drop k h2
theorem Frs.append {K : PySem.W.Frag} {H : Hp} : ∀ {f g : List Rat} {xs ys : List V}, Frs K H f xs → Frs K H g ys → Frs K H (f ++ g) (xs ++ ys)
  | [], g, xs, ys, h, k => by
    have e : xs = [] := by simpa [Frs, Reps] using h
    subst e
    exact k
  | a :: f, g, xs, ys, h, k => by
    obtain ⟨r, zs, rfl, h1, h2⟩ := h.uncons
    exact Frs.cons h1 (Frs.append h2 k)
theorem Frs.set {K : PySem.W.Frag} {H : Hp} {q : Rat} {p : Addr} : ∀ {f : List Rat} {xs : List V} (k : Nat), Frs K H f xs → Fq K H p q → Frs K H (f.set k q) (xs.set k (.ref p))
  | [], xs, k, h, _ => by
    have e : xs = [] := by simpa [Frs, Reps] using h
    subst e
    exact Frs.nil
  | a :: f, xs, 0, h, z => by
    obtain ⟨r, zs, rfl, h1, h2⟩ := h.uncons
    exact Frs.cons z h2
  | a :: f, xs, k + 1, h, z => by
    obtain ⟨r, zs, rfl, h1, h2⟩ := h.uncons
    exact Frs.cons h1 (Frs.set k h2 z)
theorem Frs.replicate {K : PySem.W.Frag} {H : Hp} {q : Rat} {p : Addr} (h : Fq K H p q) : ∀ n, Frs K H (List.replicate n q) (List.replicate n (.ref p))
  | 0 => Frs.nil
  | n + 1 => Frs.cons h (Frs.replicate h n)
def Pl (K : PySem.W.Frag) (H : Hp) (p : Addr) (f : List Rat) : Prop := ∃ xs, SqT K H p xs ∧ Frs K H f xs
theorem Pl.rep {K : PySem.W.Frag} {H : Hp} {p : Addr} {f : List Rat} (h : Pl K H p f) : Rep K H (polyD f) (.ref p) := by
  obtain ⟨xs, h1, h2⟩ := h
  simp only [polyD, Rep]
  exact ⟨p, xs, rfl, h1, h2⟩
theorem Pl.same {K : PySem.W.Frag} {H H' : Hp} {p : Addr} {f : List Rat} (h : Pl K H p f) (e : Same H H') : Pl K H' p f := let ⟨xs, h1, h2⟩ := h; ⟨xs, e.seqT h1, h2.same e⟩
theorem Pl.updL {K : PySem.W.Frag} {H : Hp} {D p : Addr} {ys : List V} {o : HO} {f : List Rat} (hD : H D = some (.lst ys)) (h : Pl K H p f) : Pl K (upd H D o) p f := let ⟨xs, h1, h2⟩ := h; ⟨xs, h1.updL hD, h2.updL hD⟩
theorem Same.updL {H0 H : Hp} {D : Addr} {o : HO} (e : Same H0 H) (h : H0 D = none) : Same H0 (upd H D o) := fun b u z => by
  rw [upd_ne (ne_of_none z h)]; exact e b u z
theorem CO.frs {K : PySem.W.Frag} {n : Nat} {src : Nat → Hp → V → Prop} {st : Hp → Prop} {js : List (Option Nat)} {tl : TE} {σ : St} {H1 : Hp} {Q : VK} (F : Nat → Rat) (hn : n ≤ 1000) (hst : ∀ H, Same H1 H → st H)
    (hel : ∀ i H x (R : VK), i < n → Same H1 H → src i H x → (∀ r H3, Same H H3 → Fq K H3 r (F i) → R (.ref r) H3) → tl (some x :: cσ js σ) H R)
    (hq : ∀ D H xs, Same H1 H → H1 D = none → H D = some (.lst xs) → Frs K H ((List.range n).map F) xs → Q (.ref D) H) : CO n src st (none :: js) (gName 0) tl σ H1 Q := by
  intro D hD
  refine ⟨fun i ys σc H => (∃ r, σc = r :: cσ js σ) ∧ Same H1 H ∧ H D = some (.lst ys) ∧ Frs K H ((List.range i).map F) ys, ⟨⟨none, rfl⟩, same_upd hD, upd_same, Frs.nil⟩, fun i ys σc H _ h => hst H h.2.1, ?_, ?_⟩
  · rintro i ys σc H x hi ⟨⟨r, rfl⟩, sm, hd, hf⟩ hx
    refine hel i H x _ hi sm hx fun p H3 s3 hy => ?_
    have hl := hf.len
    refine ⟨s3 _ _ hd, small1000 (by simp at hl; omega), ⟨_, rfl⟩, (sm.trans s3).updL hD, upd_same, ?_⟩
    rw [List.range_succ, List.map_append]
    exact Frs.snoc (Frs.updL (s3 _ _ hd) (hf.same s3)) (SqT.updL (s3 _ _ hd) hy)
  · rintro ys σc H ⟨_, sm, hd, hf⟩
    exact ⟨hd, hq D H ys sm hD hd hf⟩
theorem Sz.zero {n : Nat} (h : 1 ≤ n) : Sz n (0 : Rat) := Sz.mono (m := 1) ⟨by show (_ : Nat) < _; decide, by show (_ : Nat) < _; decide⟩ h
theorem Sz.cf {n : Nat} {f : List Rat} (h : ∀ q ∈ f, Sz n q) (hn : 1 ≤ n) (k : Nat) : Sz n (Mt.cf f k) := by
  rcases Nat.lt_or_ge k f.length with z | z
  · exact h _ (List.mem_of_getElem? (Mt.cf_lt z))
  · rw [Mt.cf_ge z]; exact Sz.zero hn
theorem Pl.nil {K : PySem.W.Frag} {H : Hp} {p : Addr} (h : H p = some (.tup [])) : Pl K H p [] := ⟨[], SqT.of h, Frs.nil⟩
theorem rep_lst {K : PySem.W.Frag} {H : Hp} {p : Addr} {f : List Rat} {xs : List V} (h : H p = some (.lst xs)) (k : Frs K H f xs) : Rep K H (lstD f) (.ref p) := by
  simp only [lstD, Rep]
  exact ⟨p, xs, rfl, SqL.of h, k⟩
def frIn (K : PySem.W.Frag) (a : Addr) (t b : Int) : Bool := match K.lookup a with
  | some o => (match o.cls, o.data with
    | .type "tuple", .seq its _ => (match its.toList with | [.int x _, .int y _] => x == t && y == b | _ => false)
    | _, _ => false)
  | none => false
theorem frIn_sq {K : PySem.W.Frag} {a : Addr} {t b : Int} (h : frIn K a t b = true) (H : Hp) : SqT K H a [.int t, .int b] := by
  unfold frIn at h
  split at h
  · rename_i o e
    split at h
    · rename_i its n hc hd
      split at h
      · rename_i x tx y ty hl
        obtain ⟨h1, h2⟩ := Bool.and_eq_true_iff.mp h
        have h1 : x = t := by simpa using h1
        have h2 : y = b := by simpa using h2
        subst h1 h2
        refine .inr ⟨o, its, n, e, hc, hd, ?_, ?_⟩
        · have : its.size = 2 := by rw [← Array.length_toList, hl]; rfl
          rw [this]; exact sz_le 2 (by decide)
        · rw [hl]; exact .cons ⟨_, rfl⟩ (.cons ⟨_, rfl⟩ .nil)
      · cases h
    · cases h
  · cases h
end L2
namespace Mt
structure Ln (d n : Nat) (f : List Rat) : Prop where
  ex : ∃ D N : Nat, 0 < D ∧ D ≤ 2 ^ d ∧ N ≤ 2 ^ n ∧ ∀ k, Lat D N (cf f k)
theorem Ln.bits {d n : Nat} {f : List Rat} (h : Ln d n f) (k : Nat) : (cf f k).num.natAbs < 2 ^ (n + 1) ∧ ((cf f k).den : Int).natAbs < 2 ^ (d + 1) := by
  obtain ⟨D, N, h1, h2, h3, h4⟩ := h.ex
  have a := ((h4 k).dvd (by omega)).2
  have b := (h4 k).le (by omega)
  rw [Nat.pow_succ, Nat.pow_succ]
  constructor
  · have : 0 < 2 ^ n := Nat.two_pow_pos n
    omega
  · have : 0 < 2 ^ d := Nat.two_pow_pos d
    omega
theorem Ln.ext {d n : Nat} {f g : List Rat} (h : Ln d n f) (e : ∀ k, cf g k = cf f k) : Ln d n g := by
  obtain ⟨D, N, h1, h2, h3, h4⟩ := h.ex
  exact ⟨D, N, h1, h2, h3, fun k => by rw [e]; exact h4 k⟩
theorem Ln.trim {d n : Nat} {f : List Rat} (h : Ln d n f) : Ln d n (trim f) := h.ext fun k => cf_trim f k
theorem Ln.mono {d n d' n' : Nat} {f : List Rat} (h : Ln d n f) (hd : d ≤ d') (hn : n ≤ n') : Ln d' n' f := by
  obtain ⟨D, N, h1, h2, h3, h4⟩ := h.ex
  exact ⟨D, N, h1, Nat.le_trans h2 (Nat.pow_le_pow_right (by decide) hd), Nat.le_trans h3 (Nat.pow_le_pow_right (by decide) hn), h4⟩
theorem Ln.of {m : Nat} : ∀ (f : List Rat), (∀ q ∈ f, q.num.natAbs < 2 ^ m ∧ (q.den : Int).natAbs < 2 ^ m) → Ln (m * f.length) (m * f.length) f
  | [], _ => ⟨1, 0, by decide, by simp, by simp, fun k => by rw [cf_nil]; exact Lat.zero⟩
  | a :: f, h => by
    obtain ⟨D, N, h1, h2, h3, h4⟩ := (Ln.of f fun q hq => h q (List.mem_cons_of_mem _ hq)).ex
    obtain ⟨a1, a2⟩ := h a (List.mem_cons_self ..)
    have ad : a.den ≤ 2 ^ m := by omega
    have an : a.num.natAbs ≤ 2 ^ m := by omega
    have e : 2 ^ (m * (a :: f).length) = 2 ^ m * 2 ^ (m * f.length) := by rw [List.length_cons, Nat.mul_succ, Nat.pow_add, Nat.mul_comm]
    refine ⟨a.den * D, 2 ^ m * 2 ^ (m * f.length), Nat.mul_pos (Nat.pos_of_ne_zero a.den_nz) h1, by rw [e]; exact Nat.mul_le_mul ad h2, by rw [e]; exact Nat.le_refl _, fun k => ?_⟩
    cases k with
    | zero => rw [cf_zero]; exact (Lat.of a).up.mono (Nat.mul_le_mul an h2)
    | succ k =>
      rw [cf_succ]
      have := (h4 k).up (E := a.den)
      rw [Nat.mul_comm D] at this
      refine this.mono ?_
      rw [Nat.mul_comm]
      exact Nat.mul_le_mul ad h3
theorem Ln.padd {d n e m : Nat} {f g : List Rat} (h : Ln d n f) (k : Ln e m g) : Ln (d + e) (n + e + (m + d) + 1) (padd f g) := by
  obtain ⟨D, N, h1, h2, h3, h4⟩ := h.ex
  obtain ⟨E, M, k1, k2, k3, k4⟩ := k.ex
  refine ⟨D * E, N * E + M * D, Nat.mul_pos h1 k1, by rw [Nat.pow_add]; exact Nat.mul_le_mul h2 k2, ?_, fun i => ?_⟩
  · have a : N * E ≤ 2 ^ (n + e) := by rw [Nat.pow_add]; exact Nat.mul_le_mul h3 k2
    have b : M * D ≤ 2 ^ (m + d) := by rw [Nat.pow_add]; exact Nat.mul_le_mul k3 h2
    have c : 2 ^ (n + e) ≤ 2 ^ (n + e + (m + d)) := Nat.pow_le_pow_right (by decide) (by omega)
    have c' : 2 ^ (m + d) ≤ 2 ^ (n + e + (m + d)) := Nat.pow_le_pow_right (by decide) (by omega)
    rw [Nat.pow_succ]
    omega
  · rw [cf_padd]
    have z := (k4 i).up (E := D)
    rw [Nat.mul_comm E] at z
    exact (h4 i).up.add z
theorem Lat.mc {D E N M : Nat} {g : List Rat} (k4 : ∀ k, Lat E M (cf g k)) : ∀ (f : List Rat) (_ : ∀ k, Lat D N (cf f k)) (n : Nat), Lat (D * E) (f.length * (N * M)) (mc f g n)
  | [], _, n => by rw [mc_nil_left]; exact Lat.zero
  | a :: f, h, 0 => by
    have := (h 0).mul (k4 0)
    rw [cf_zero] at this
    rw [Mt.mc]
    exact this.mono (Nat.le_mul_of_pos_left _ (by simp))
  | a :: f, h, n + 1 => by
    have z := (h 0).mul (k4 (n + 1))
    rw [cf_zero] at z
    rw [Mt.mc]
    have := z.add (Lat.mc k4 f (fun k => by have := h (k + 1); rw [cf_succ] at this; exact this) n)
    refine this.mono ?_
    rw [List.length_cons, Nat.succ_mul, Nat.add_comm]
    exact Nat.le_refl _
theorem Ln.pmul {d n e m l : Nat} {f g : List Rat} (h : Ln d n f) (k : Ln e m g) (hl : f.length ≤ 2 ^ l) : Ln (d + e) (l + (n + m)) (pmul f g) := by
  obtain ⟨D, N, h1, h2, h3, h4⟩ := h.ex
  obtain ⟨E, M, k1, k2, k3, k4⟩ := k.ex
  refine ⟨D * E, f.length * (N * M), Nat.mul_pos h1 k1, by rw [Nat.pow_add]; exact Nat.mul_le_mul h2 k2, ?_, fun i => by rw [cf_pmul]; exact Lat.mc k4 f h4 i⟩
  rw [Nat.pow_add, Nat.pow_add]
  exact Nat.mul_le_mul hl (Nat.mul_le_mul h3 k3)
theorem Ln.rowIn {d n e m l : Nat} {f g : List Rat} (h : Ln d n f) (k : Ln e m g) (hl : f.length ≤ 2 ^ l) {i j : Nat} (hi : i < f.length) (hj : j ≤ g.length) :
    Ln (d + e) (l + (n + m) + 1) (rowIn (prodIn f g i) i (cf f i) g j) := by
  obtain ⟨D, N, h1, h2, h3, h4⟩ := h.ex
  obtain ⟨E, M, k1, k2, k3, k4⟩ := k.ex
  refine ⟨D * E, f.length * (N * M) + N * M, Nat.mul_pos h1 k1, by rw [Nat.pow_add]; exact Nat.mul_le_mul h2 k2, ?_, fun p => ?_⟩
  · have a : f.length * (N * M) ≤ 2 ^ (l + (n + m)) := by rw [Nat.pow_add, Nat.pow_add]; exact Nat.mul_le_mul hl (Nat.mul_le_mul h3 k3)
    have b : N * M ≤ f.length * (N * M) := Nat.le_mul_of_pos_left _ (by omega)
    rw [Nat.pow_succ]
    omega
  · rw [cf_rowIn _ _ _ _ (by rw [prodIn_len]; omega), cf_prodIn f g p i (by omega)]
    have a : Lat (D * E) ((f.take i).length * (N * M)) (mc (f.take i) g p) := Lat.mc k4 (f.take i) (fun q => by
      rw [cf_take]
      split
      · exact h4 q
      · exact Lat.zero) p
    have a' := a.mono (N := f.length * (N * M)) (Nat.mul_le_mul (by rw [List.length_take]; omega) (Nat.le_refl _))
    refine a'.add ?_
    split
    · exact (h4 i).mul (k4 _)
    · exact Lat.zero
theorem Ln.take {d n : Nat} {f : List Rat} (h : Ln d n f) (k : Nat) : Ln d n (f.take k) := by
  obtain ⟨D, N, h1, h2, h3, h4⟩ := h.ex
  refine ⟨D, N, h1, h2, h3, fun i => ?_⟩
  rw [cf_take]
  split
  · exact h4 i
  · exact Lat.zero
end Mt
namespace L2
open PySem PySem.Spec PyProof.Rows
section
variable {prog : Program} {w : World} {A : Around} {E : Value → Shared → Prop} {s : Shared}
end
section
variable {prog : Program} {w : World} {A : Around} {E : Value → Shared → Prop} {s : Shared}
end
section
variable {X : Cx} {es : List Expr} {y1 : Nat} {tp : Pos}
def FE (xs : List V) (at_ : Hp → Prop) (g : TG) (tb : TS) (D : Ends) (σ : St) (H : Hp) : Prop := ∃ Pv : Nat → St → Hp → Prop, Pv 0 σ H ∧ (∀ i σ H, i ≤ xs.length → Pv i σ H → at_ H) ∧
  (∀ i x σ H p, xs[i]? = some x → Pv i σ H → H p = none → g (.ref p) σ (upd H p (.tup [.int i, x])) fun σ2 H2 => tb { D with nx := Pv (i + 1), ct := Pv (i + 1), bk := D.nx } σ2 H2) ∧ ∀ σ H, Pv xs.length σ H → D.nx σ H
def tForE (K : PySem.W.Frag) (te : TE) (g : TG) (tb : TS) : TS := fun D σ H => te σ H fun v H1 => ∃ a xs, v = .ref a ∧ SqT K H1 a xs ∧ FE xs (fun H => SqT K H a xs) g tb D σ H1
end
def IsRevT (h : Heap) (r l : Addr) (i : Int) : Prop := ∃ o, h.get? r = some o ∧ o.cls = .type "reversed" ∧ o.data = .fields #[.ref l, rawInt i]
section
variable {prog : Program} {w : World} {A : Around} {E : Value → Shared → Prop} {s : Shared}
theorem IsRevT.ty {r l : Addr} {i : Int} (y : IsRevT s.heap r l i) : s.TypeIs (.ref r) "reversed" := let ⟨o, z, c, _⟩ := y; ⟨o, z, c⟩
end
section
variable {X : Cx} {tg : Expr}
def tForV (K : PySem.W.Frag) (te : TE) (g : TG) (tb : TS) : TS := fun D σ H => te σ H fun v H1 => ∃ a xs, v = .ref a ∧ SqT K H1 a xs ∧ FL xs.reverse (fun H => SqT K H a xs) g tb D σ H1
end
theorem Ln.sz {b : Nat} {f : List Rat} (h : Mt.Ln b b f) (k : Nat) : Sz (b + 1) (Mt.cf f k) := ⟨(h.bits k).1, (h.bits k).2⟩
theorem Sz.ln {m : Nat} {f : List Rat} (h : ∀ q ∈ f, Sz m q) : Mt.Ln (m * f.length) (m * f.length) f := Mt.Ln.of f fun q hq => ⟨(h q hq).t, (h q hq).b⟩
theorem ixN_nat {n k : Nat} (h : k < n) : ixN n (k : Int) = some k := by
  simp [ixN]
  omega
end L2
namespace L2
open PySem PySem.Spec PyProof.Rows PySem.W
def excInit (K : Frag) (C fI : Addr) : Bool :=
  match K.lookup C with
  | some ⟨.type "type", _, .cls cd, sl⟩ =>
    (match cd.mro, sl.toList with
      | .ref D :: up, [_, _, _, _, some (.builtin n), _] => D == C && (n == "ValueError.__new__" && (!cd.hasDel && (tailIn K vmro up && (isFn K (.ref fI) && findIn K (.ref C) "__init__" == some (some (.ref fI))))))
      | _, _ => false)
  | _ => false
section
variable {prog : Program} {w : World} {A : Around} {E : Value → Shared → Prop} {h : Heap} {g : Array GenState} {d : Drawn} {t : Nat} {os : OsState}
variable {nm q : Str} {C N fI : Addr} {bs bm : List Value} {hdct : Bool} {sn : List Str} {sub : List Value} {ab : Bool} {col : Option Bool} {dd : Option Addr} {k0 k1 k2 k3 k5 : Option Value} {K : Frag} {us : List Value}
end
end L2
namespace L2
open PySem PySem.Spec PyProof.Rows PySem.W
def rawX (e : Addr) (cls : Value) (dv : Option Addr) : HO := .ext fun h => ∃ t : Addr, h.get? e = some { cls := cls, dict := dv, data := .fields #[.ref t, .none, .none, .none, .bool false, .none] }
theorem rawX_ok {P : Program} {w : World} {H : Hp} {h : Heap} {e t : Addr} {cls : Value} {dv : Option Addr} (q : h.get? e = some { cls := cls, dict := dv, data := .fields #[.ref t, .none, .none, .none, .bool false, .none] }) : ObjOk P w H h e (rawX e cls dv) :=
  ⟨⟨t, q⟩, ⟨_, q⟩, fun _ _ ⟨t, q⟩ k => ⟨t, k _ q⟩⟩
def era (H : Hp) (e : Addr) : Hp := fun b => if b = e then none else H b
@[simp] theorem era_same (H : Hp) (e : Addr) : era H e e = none := if_pos rfl
section
variable {M : Model} {A : Around} {E : Value → Shared → Prop} {env : Env}
variable {nm q : Str} {C N : Addr} {bs bm : List Value} {hdct : Bool} {sn : List Str} {sub : List Value} {ab : Bool} {col : Option Bool} {dd : Option Addr} {k0 k1 k2 k3 k5 : Option Value} {nid : String}
end
def tRaiseI (C : Addr) (sp : Sp) (E : XK) (t : TA) : TS := fun _ σ H => t σ H fun vs H1 => vs.length ≤ sizeLine ∧ ∀ e, H1 e = none →
  sp (.ref e :: vs) (upd H1 e (rawX e (.ref C) none)) (fun r H2 => r = .non ∧ ∃ dv, H2 e = some (rawX e (.ref C) dv) ∧ E (.ref C) dv (era H2 e)) E0
end L2
namespace L2
open PySem PySem.Spec PyProof.Rows PySem.W
section
variable {X : Cx} {pins : List (Addr × Obj)} {σ : St} {H : Hp} {s : Shared}
theorem upd_id {H : Hp} {a : Addr} {o : HO} (q : H a = some o) : upd H a o = H := by
  funext b
  by_cases z : b = a
  · subst z; rw [upd_same, q]
  · rw [upd_ne z]
theorem Inv.args {e t : Addr} {cls : Value} {dv : Option Addr} {us : List Value} (I : Inv X pins σ H s) (q : H e = some (rawX e cls dv)) (g : s.heap.get? e = some { cls := cls, dict := dv, data := .fields #[.ref t, .none, .none, .none, .bool false, .none] }) :
    Inv X pins σ H { s with heap := (s.heap.push { cls := .type "tuple", data := .seq us.toArray }).update e (Obj.mapFields (·.setIfInBounds 0 (.ref s.heap.objs.size))) } := by
  have g1 := Heap.get?_push_of_some (h := s.heap) { cls := .type "tuple", data := .seq us.toArray } g
  have g2 := Heap.get?_update_self (Obj.mapFields (·.setIfInBounds 0 (.ref s.heap.objs.size))) g1 rfl
  have I2 := I.write (x := e) (e := e) (o := rawX e cls dv) (t' := s.toks) (h' := (s.heap.push { cls := .type "tuple", data := .seq us.toArray }).update e (Obj.mapFields (·.setIfInBounds 0 (.ref s.heap.objs.size)))) (by rw [q]; exact trivial) (.inl rfl)
    (fun b u n z => (Heap.get?_update_other _ _ (Ne.symm n)).trans (Heap.get?_push_of_some _ z)) ⟨_, g2⟩ (rawX_ok (t := s.heap.objs.size) (by rw [g2]; rfl))
  rw [upd_id q] at I2
  exact I2
def tExcInit (K : Frag) (t : TA) : TE := fun σ H Q => t σ H fun vs H1 => ∃ a C fI dv x, vs = [.ref a, x] ∧ H1 a = some (rawX a (.ref C) dv) ∧ excInit K C fI = true ∧ Q .non H1
end
end L2
namespace L2
open PySem PySem.Spec PyProof.Rows PySem.W Builtin Builtin.ObjectAttr
def tFs (x : Str) (t : TE) : TE := fun σ H Q => t σ H fun v H1 => ∃ n : Int, v = .int n ∧ n.natAbs.log2 < 1920 ∧ (x ++ (toString n : Str)).length ≤ sizeLine ∧ Q (.str (x ++ (toString n : Str))) H1
def refsV : List Value → Bool
  | .ref _ :: r => refsV r
  | l => l == vmro
structure XAtt (K : Frag) (C : Addr) (f : Str) : Prop where
  sa : findIn K (.ref C) "__setattr__" = some (some (.builtin "object.__setattr__"))
  no : findIn K (.ref C) f = some none
  ob : mroIn K C (.type "object") = some true
  cl : (clsIn K C).any (fun cd => cd.hasDict && refsV cd.mro) = true
section
variable {prog : Program} {w : World} {A : Around} {E : Value → Shared → Prop} {s : Shared} {K : Frag} {x C t : Addr} {f : Str} {v : Value}
end
section
variable {X : Cx} {pins : List (Addr × Obj)} {σ : St} {H : Hp} {s : Shared}
end
def sXset (K : Frag) (ta tv : TE) (f : Str) : TS := fun D σ H => tv σ H fun y H1 => ta σ H1 fun x H2 => ∃ a C, x = .ref a ∧ H2 a = some (rawX a (.ref C) none) ∧ XAtt K C f ∧
  ∀ d, H2 d = none → d ≠ a → D.nx σ (upd (upd H2 a (rawX a (.ref C) (some d))) d (.xd [(f, y)]))
end L2
namespace L2
open PySem PySem.Spec PyProof.Rows PySem.W Builtin Builtin.ObjectAttr
structure XGet (K : Frag) (C : Addr) (f : Str) : Prop where
  x : XCls K C
  hd : hasDictIn K C = true
  no : findIn K (.ref C) f = some none
def tXget (K : Frag) (ta : TE) (f : Str) : TE := fun σ H Q => ta σ H fun x H1 => ∃ a C d fs v, x = .ref a ∧ H1 a = some (excD a (.ref C) (some d)) ∧ H1 d = some (.xd fs) ∧ XGet K C f ∧ fs.lookup f = some v ∧ Q v H1
end L2
namespace L2
open PySem PySem.Spec PyProof.Rows Builtin Builtin.Str
section
variable {X : Cx}
end
end L2
namespace L2
open PySem PySem.Spec PyProof.Rows
end L2
namespace L2
open PySem PySem.Spec PyProof.Rows
end L2
namespace L2
open PySem PySem.Spec PyProof.Rows
section
variable {X : Cx}
def rAll : List V → Hp → VK → Prop := fun xs H Q => ∃ (l : Addr) (bs : List Bool), xs = [.ref l] ∧ H l = some (.lst (bs.map V.bl)) ∧ Q (.bl (bs.all id)) H
end
end L2
namespace L2
open PySem PySem.Spec PyProof.Rows Builtin Builtin.Str
section
variable {prog : Program} {w : World} {A : Around} {E : Value → Shared → Prop} {s : Shared} {it : Addr} {fp wr : List Addr} {G : Array GenState → Array GenState → Prop} {n : Nat} {P : Nat → Value → Prop} {St : Nat → Shared → Prop}
end
def tJoinRev (a : PySem.Str) (te : TE) : TE := fun σ H Q => te σ H fun x H1 => ∃ (l : Addr) (ts : List PySem.Str), x = .ref l ∧ H1 l = some (.lst (ts.map V.str)) ∧ JoinOk a ts.reverse = true ∧ Q (.str (Txt.join a ts.reverse)) H1
end L2
namespace Mt
open PySem PySem.NumText
end Mt
namespace L2
open PySem PySem.Spec PyProof.Rows
def FX (x : Str) (g : TG) (tb : TS) (D : Ends) (σ : St) (H : Hp) : Prop := ∃ Pv : Nat → St → Hp → Prop, Pv 0 σ H ∧ (∀ i c σ H, x.cps[i]? = some c → Pv i σ H → g (.str ⟨#[c]⟩) σ H fun σ2 H2 => tb { D with nx := Pv (i + 1), ct := Pv (i + 1), bk := D.nx } σ2 H2) ∧ ∀ σ H, Pv x.cps.size σ H → D.nx σ H
def tForX (te : TE) (g : TG) (tb : TS) : TS := fun D σ H => te σ H fun v H1 => ∃ x, v = .str x ∧ FX x g tb D σ H1
section
variable {X : Cx} {tg l a elt : Expr} {body : List Stmt} {te tl : TE} {g : TG} {tb : TS} {p pos pos' : Pos} {scope : Scope} {js : List (Option Nat)}
def tCoX (js : List (Option Nat)) (te : TE) (g : TG) (tl : TE) : TE := fun σ H Q => te σ H fun v H1 => ∃ x, v = .str x ∧ CO x.cps.size (fun i _ v => ∃ c, x.cps[i]? = some c ∧ v = .str ⟨#[c]⟩) (fun _ => True) js g tl σ H1 Q
theorem pe_globI {x : Str} {n : Int} (hm : ∃ t, X.mg x = some (.int n t)) (hg : Gl X x := by rfl) (hd : (x == ("__debug__" : Str)) = false := by decide) : PE X (.Name x pos) (tC (.int n)) := by
  obtain ⟨t, hm⟩ := hm
  exact pe_glob hg hm ⟨t, rfl⟩ hd
end
end L2
namespace L2
open PySem PySem.Spec PyProof.Rows
end L2
namespace Mt
def wk (L D s : Nat → Rat) (top h : Nat) : Rat := s h * L h + (if 0 < h then s (h - 1) else 0) + (if h + 1 < top then s (h + 1) * D h else 0)
def row (L D : Nat → Rat) (top i : Nat) : Nat → List Rat
  | 0 => (List.range top).map fun h => if h = i then 1 else 0
  | n + 1 => (List.range top).map fun h => wk L D (cf (row L D top i n)) top h
theorem row_len (L D : Nat → Rat) (top i : Nat) : ∀ n, (row L D top i n).length = top
  | 0 => by simp [row]
  | n + 1 => by simp [row]
abbrev sm (L D : Nat → Rat) (top i n j : Nat) : Rat := cf (row L D top i n) j
section
variable {L D : Nat → Rat} {top : Nat}
theorem sm_zero {i j : Nat} (h : j < top) : sm L D top i 0 j = if j = i then 1 else 0 := by rw [sm, row, cf_map_range, if_pos h]
theorem sm_ge {i n j : Nat} (h : top ≤ j) : sm L D top i n j = 0 := cf_ge (by rw [row_len]; exact h)
theorem sm_succ {i n j : Nat} (h : j < top) : sm L D top i (n + 1) j = wk L D (sm L D top i n) top j := by rw [sm, row, cf_map_range, if_pos h]
def Su (f : Nat → Rat) : Nat → Rat
  | 0 => 0
  | n + 1 => Su f n + f n
theorem Su_congr {f g : Nat → Rat} : ∀ {m : Nat}, (∀ h, h < m → f h = g h) → Su f m = Su g m
  | 0, _ => rfl
  | m + 1, e => by rw [Su, Su, Su_congr fun h hh => e h (by omega), e m (by omega)]
theorem Su_add (f g : Nat → Rat) : ∀ m, Su (fun h => f h + g h) m = Su f m + Su g m
  | 0 => by simp only [Su]; grind
  | m + 1 => by rw [Su, Su, Su, Su_add f g m]; grind
theorem Su_mul (f : Nat → Rat) (c : Rat) : ∀ m, Su (fun h => f h * c) m = Su f m * c
  | 0 => by simp only [Su]; grind
  | m + 1 => by rw [Su, Su, Su_mul f c m]; grind
theorem Su_zero : ∀ m, Su (fun _ => 0) m = 0
  | 0 => rfl
  | m + 1 => by rw [Su, Su_zero m]; grind
theorem Su_one (f : Nat → Rat) (j : Nat) : ∀ m, j < m → Su (fun h => f h * (if j = h then 1 else 0)) m = f j
  | 0, h => absurd h (Nat.not_lt_zero _)
  | m + 1, h => by
    rw [Su]
    by_cases e : j = m
    · subst e
      rw [if_pos rfl, Su_congr (g := fun _ => 0) (fun h hh => by rw [if_neg (by omega)]; grind), Su_zero]
      grind
    · rw [if_neg e, Su_one f j m (by omega)]
      grind
theorem first {i : Nat} (hi : i < top) : ∀ (n j : Nat), j < top → sm L D top i (n + 1) j = L i * sm L D top i n j + (if i + 1 < top then sm L D top (i + 1) n j else 0) + (if 0 < i then D (i - 1) * sm L D top (i - 1) n j else 0)
  | 0, j, hj => by
    rw [sm_succ hj, sm_zero hj, sm_zero hj, sm_zero hj]
    unfold wk
    rw [sm_zero hj]
    by_cases h1 : j = i
    · subst h1
      rw [if_pos rfl]
      have a : (if 0 < j then sm L D top j 0 (j - 1) else 0) = 0 := by
        split
        · rw [sm_zero (by omega), if_neg (by omega)]
        · rfl
      have b : (if j + 1 < top then sm L D top j 0 (j + 1) * D j else 0) = 0 := by
        split
        · rw [sm_zero (by omega), if_neg (by omega)]; grind
        · rfl
      have c : (if j = j + 1 then (1 : Rat) else 0) = 0 := if_neg (by omega)
      rw [a, b, c]
      by_cases z : 0 < j
      · rw [if_pos z, if_neg (show ¬ j = j - 1 by omega)]; grind
      · rw [if_neg z]; grind
    · rw [if_neg h1]
      have a : (if 0 < j then sm L D top i 0 (j - 1) else 0) = if i + 1 < top then (if j = i + 1 then (1 : Rat) else 0) else 0 := by
        by_cases e : j = i + 1
        · rw [if_pos (by omega), sm_zero (by omega), if_pos (by omega), if_pos (by omega), if_pos e]
        · rw [if_neg e, ite_self]
          split
          · rw [sm_zero (by omega), if_neg (by omega)]
          · rfl
      have b : (if j + 1 < top then sm L D top i 0 (j + 1) * D j else 0) = if 0 < i then D (i - 1) * (if j = i - 1 then (1 : Rat) else 0) else 0 := by
        by_cases e : i = j + 1
        · subst e
          rw [if_pos hi, if_pos (by omega), sm_zero hi, if_pos rfl, if_pos (by omega), show j + 1 - 1 = j by omega]
          grind
        · have z : (if 0 < i then D (i - 1) * (if j = i - 1 then (1 : Rat) else 0) else 0) = 0 := by
            split
            · rw [if_neg (by omega)]; grind
            · rfl
          rw [z]
          split
          · rw [sm_zero (by omega), if_neg (by omega)]; grind
          · rfl
      rw [a, b]
      grind
  | n + 1, j, hj => by
    rw [sm_succ hj, sm_succ (n := n) hj, sm_succ (n := n) hj, sm_succ (n := n) hj]
    unfold wk
    have e0 := first hi n j hj
    by_cases z1 : 0 < j <;> by_cases z2 : j + 1 < top
    · have e1 := first hi n (j - 1) (by omega)
      have e2 := first hi n (j + 1) z2
      simp only [if_pos z1, if_pos z2]
      rw [e0, e1, e2]
      grind
    · have e1 := first hi n (j - 1) (by omega)
      simp only [if_pos z1, if_neg z2]
      rw [e0, e1]
      grind
    · have e2 := first hi n (j + 1) z2
      simp only [if_neg z1, if_pos z2]
      rw [e0, e2]
      grind
    · simp only [if_neg z1, if_neg z2]
      rw [e0]
      grind
def pr (D : Nat → Rat) (i : Nat) : Nat → Rat
  | 0 => 1
  | n + 1 => pr D i n * D (i + n)
theorem far : ∀ (n i h : Nat), i + n < h → sm L D top i n h = 0
  | 0, i, h, e => by
    by_cases z : h < top
    · rw [sm_zero z, if_neg (by omega)]
    · exact sm_ge (by omega)
  | n + 1, i, h, e => by
    by_cases z : h < top
    · rw [sm_succ z]
      unfold wk
      rw [far n i h (by omega), far n i (h - 1) (by omega), far n i (h + 1) (by omega)]
      simp
      grind
    · exact sm_ge (by omega)
theorem straight (i : Nat) : ∀ n, i + n < top → sm L D top i n (i + n) = 1
  | 0, h => by rw [sm_zero (by omega), if_pos (by omega)]
  | n + 1, h => by
    rw [sm_succ h]
    unfold wk
    rw [far n i (i + (n + 1)) (by omega), far n i (i + (n + 1) + 1) (by omega), if_pos (by omega), show i + (n + 1) - 1 = i + n by omega, straight i n (by omega)]
    simp
    grind
end
theorem Lat.one : Lat 1 1 1 := ⟨1, by grind, by decide⟩
abbrev B0 : Nat := 27720
abbrev W0 : Nat := 2000001
abbrev Wg (q : Rat) : Prop := Lat B0 (999999 * B0) q
abbrev Gd (n : Nat) (q : Rat) : Prop := Lat (B0 ^ n) (W0 ^ n * B0 ^ n) q
theorem Gd.zero {n : Nat} : Gd n 0 := Lat.zero
theorem Gd.one : Gd 0 1 := Lat.one
theorem gd_step {n : Nat} {a b c d e : Rat} (ha : Gd n a) (hb : Wg b) (hc : Gd n c) (hd : Gd n d) (he : Wg e) :
    Lat (B0 ^ (n + 1)) (W0 ^ (n + 1) * B0 ^ (n + 1)) (a * b) ∧ Lat (B0 ^ (n + 1)) (W0 ^ (n + 1) * B0 ^ (n + 1)) (a * b + c) ∧ Lat (B0 ^ (n + 1)) (W0 ^ (n + 1) * B0 ^ (n + 1)) (d * e) ∧ Gd (n + 1) (a * b + c + d * e) := by
  have h1 : Lat (B0 ^ n * B0) (W0 ^ n * B0 ^ n * (999999 * B0)) (a * b) := ha.mul hb
  have h2 : Lat (B0 ^ n * B0) (W0 ^ n * B0 ^ n * B0) c := hc.up
  have h3 : Lat (B0 ^ n * B0) (W0 ^ n * B0 ^ n * (999999 * B0)) (d * e) := hd.mul he
  have e1 : W0 ^ (n + 1) * B0 ^ (n + 1) = W0 ^ n * B0 ^ n * (2000001 * B0) := by rw [Nat.pow_succ, Nat.pow_succ]; simp only [Nat.mul_comm, Nat.mul_left_comm, Nat.mul_assoc, W0]
  show _ ∧ _ ∧ _ ∧ Lat (B0 ^ (n + 1)) (W0 ^ (n + 1) * B0 ^ (n + 1)) _
  rw [e1, Nat.pow_succ B0 n]
  generalize W0 ^ n * B0 ^ n = X at h1 h2 h3 ⊢
  have l : ∀ x y : Nat, x ≤ y → X * (x * B0) ≤ X * (y * B0) := fun x y h => Nat.mul_le_mul_left _ (Nat.mul_le_mul_right _ h)
  have e2 : X * B0 = X * (1 * B0) := by rw [Nat.one_mul]
  rw [e2] at h2
  refine ⟨h1.mono (l _ _ (by decide)), (h1.add h2).mono ?_, h3.mono (l _ _ (by decide)), ((h1.add h2).add h3).mono ?_⟩
  · rw [← Nat.mul_add, ← Nat.add_mul]; exact l (999999 + 1) 2000001 (by decide)
  · rw [← Nat.mul_add, ← Nat.add_mul, ← Nat.mul_add, ← Nat.add_mul]; exact l (999999 + 1 + 999999) 2000001 (by decide)
theorem gd_wk {n : Nat} {L D s : Nat → Rat} {top h : Nat} (hL : ∀ h, Wg (L h)) (hD : ∀ h, Wg (D h)) (hs : ∀ h, Gd n (s h)) : Gd (n + 1) (wk L D s top h) := by
  unfold wk
  have z : Gd n 0 := Gd.zero
  have w : Wg 0 := Lat.zero
  have e0 : (0 : Rat) = 0 * 0 := by grind
  by_cases a : 0 < h <;> by_cases b : h + 1 < top
  · rw [if_pos a, if_pos b]; exact (gd_step (hs h) (hL h) (hs (h - 1)) (hs (h + 1)) (hD h)).2.2.2
  · rw [if_pos a, if_neg b, e0]; exact (gd_step (hs h) (hL h) (hs (h - 1)) z w).2.2.2
  · rw [if_neg a, if_pos b]; exact (gd_step (hs h) (hL h) z (hs (h + 1)) (hD h)).2.2.2
  · rw [if_neg a, if_neg b, show (0 : Rat) = 0 * 0 + 0 by grind]
    have := (gd_step (hs h) (hL h) z z w).2.2.2
    grind
theorem gd_sm {L D : Nat → Rat} {top i : Nat} (hL : ∀ h, Wg (L h)) (hD : ∀ h, Wg (D h)) : ∀ n j, Gd n (sm L D top i n j)
  | 0, j => by
    by_cases h : j < top
    · rw [sm_zero h]
      split
      · exact Gd.one
      · exact Gd.zero
    · rw [sm_ge (by omega)]; exact Gd.zero
  | n + 1, j => by
    by_cases h : j < top
    · rw [sm_succ h]; exact gd_wk hL hD (gd_sm hL hD n)
    · rw [sm_ge (by omega)]; exact Gd.zero
theorem wg_low {t b : Int} (h1 : 1 ≤ b) (h2 : b ≤ 12) (ht : t.natAbs ≤ 999999) : Wg (Rat.divInt t b) := by
  have hb : (b : Rat) ≠ 0 := by
    intro z
    have : b = 0 := by exact_mod_cast z
    omega
  have hc : ∃ c : Int, b * c = 27720 ∧ c.natAbs ≤ 27720 := by
    have : b = 1 ∨ b = 2 ∨ b = 3 ∨ b = 4 ∨ b = 5 ∨ b = 6 ∨ b = 7 ∨ b = 8 ∨ b = 9 ∨ b = 10 ∨ b = 11 ∨ b = 12 := by omega
    rcases this with rfl | rfl | rfl | rfl | rfl | rfl | rfl | rfl | rfl | rfl | rfl | rfl
    · exact ⟨27720, by decide, by decide⟩
    · exact ⟨13860, by decide, by decide⟩
    · exact ⟨9240, by decide, by decide⟩
    · exact ⟨6930, by decide, by decide⟩
    · exact ⟨5544, by decide, by decide⟩
    · exact ⟨4620, by decide, by decide⟩
    · exact ⟨3960, by decide, by decide⟩
    · exact ⟨3465, by decide, by decide⟩
    · exact ⟨3080, by decide, by decide⟩
    · exact ⟨2772, by decide, by decide⟩
    · exact ⟨2520, by decide, by decide⟩
    · exact ⟨2310, by decide, by decide⟩
  obtain ⟨c, e, hc⟩ := hc
  refine ⟨t * c, ?_, ?_⟩
  · have e2 : ((B0 : Int) : Rat) = (b : Rat) * (c : Rat) := by rw [← Rat.intCast_mul, e]; rfl
    rw [e2, Rat.divInt_eq_div, Rat.intCast_mul]
    grind
  · rw [Int.natAbs_mul]
    exact Nat.mul_le_mul ht hc
theorem wg_int {t : Int} (ht : t.natAbs ≤ 999999) : Wg (t : Rat) := ⟨t * 27720, by rw [Rat.intCast_mul]; rfl, by rw [Int.natAbs_mul]; exact Nat.mul_le_mul ht (Nat.le_refl _)⟩
theorem wg_cf {f : List Rat} (h : ∀ q ∈ f, Wg q) (n : Nat) : Wg (cf f n) := by
  by_cases e : n < f.length
  · have := cf_lt e
    exact h _ (List.mem_of_getElem? this)
  · rw [cf_ge (by omega)]; exact Lat.zero
end Mt
namespace Mt
def gm (L D s : Nat → Rat) (top m : Nat) : List Rat := (List.range top).map fun x => s x * L x + (if 0 < x ∧ x ≤ m then s (x - 1) else 0) + (if x + 1 ≤ m then s (x + 1) * D x else 0)
end Mt
namespace L2
open PySem PySem.Spec PyProof.Rows
def valB : V → Value → Bool
  | .int i, .int j _ => i == j
  | .non, .none => true
  | _, _ => false
theorem valB_rel {v : V} {u : Value} (h : valB v u = true) : RelV v u := by
  cases v with
  | int i =>
    cases u with
    | int j t =>
      have e : i = j := by simpa [valB] using h
      rw [e]
      exact ⟨t, rfl⟩
    | _ => cases h
  | non =>
    cases u with
    | none => rfl
    | _ => cases h
  | _ => cases u <;> cases h
def valsB : List V → List Value → Bool
  | [], [] => true
  | v :: vs, u :: us => valB v u && valsB vs us
  | _, _ => false
theorem valsB_rel : ∀ {vs : List V} {us : List Value}, valsB vs us = true → Vals vs us
  | [], [], _ => .nil
  | v :: vs, u :: us, h => by
    simp only [valsB, Bool.and_eq_true] at h
    exact .cons (valB_rel h.1) (valsB_rel h.2)
  | [], _ :: _, h => by cases h
  | _ :: _, [], h => by cases h
def dflIn (K : PySem.W.Frag) (dV : Value) (dvs : List V) : Bool := match dV with
  | .ref T => match K.lookup T with
    | some ⟨_, _, .seq items _, _⟩ => valsB dvs items.toList
    | _ => false
  | _ => false
theorem Vals.drop' : ∀ {vs : List V} {us : List Value} (m : Nat), Vals vs us → Vals (vs.drop m) (us.drop m)
  | _, _, 0, h => h
  | _, _, _ + 1, .nil => .nil
  | _, _, m + 1, .cons _ r => Vals.drop' m r
structure FunD (K : PySem.W.Frag) (x qual : Str) (st : Stmt) (dvs : List V) (f : Addr) (fd : FuncData) : Prop where
  ex : ∃ (T : Addr) (oc : Value) (od : Option Addr) (kV doc pm : Value) (an : Option Addr) (cdv ct : Value) (osl : Array (Option Value)) (o : Obj) (items : Array Value) (n : Nat),
    fd = PySem.W.fnOf x qual (defArgs st) (defBody st) (defScope st) (.ref T) kV doc pm an cdv ct ∧ K.lookup f = some ⟨oc, od, .func fd, osl⟩ ∧ PySem.W.codeIn K cdv qual = true ∧ K.lookup T = some o ∧ o.data = .seq items n ∧ Vals dvs items.toList
  kp : PySem.W.keepIn K (.ref f) = true
theorem funD_mk {K : PySem.W.Frag} {x qual : Str} {st : Stmt} {f : Addr} {oc : Value} {od an : Option Addr} {osl : Array (Option Value)} {dV kV doc pm cdv ct : Value} {dvs : List V} (l : K.lookup f = some ⟨oc, od, .func (PySem.W.fnOf x qual (defArgs st) (defBody st) (defScope st) dV kV doc pm an cdv ct), osl⟩)
    (c : PySem.W.codeIn K cdv qual = true) (k : PySem.W.keepIn K (.ref f) = true) (d : dflIn K dV dvs = true) : FunD K x qual st dvs f (PySem.W.fnOf x qual (defArgs st) (defBody st) (defScope st) dV kV doc pm an cdv ct) := by
  unfold dflIn at d
  split at d
  · split at d
    · rename_i T _ oc' od' items n sl e
      exact ⟨⟨T, oc, od, kV, doc, pm, an, cdv, ct, osl, _, items, n, rfl, l, c, e, rfl, valsB_rel d⟩, k⟩
    · cases d
  · cases d
structure CalleeD (P : Program) (w : World) (K : PySem.W.Frag) (mg : Str → Option Value) (base : Heap) (k : Nat) (x : Str) (ps : List Str) (dvs : List V) (sp : Sp) : Prop where
  ex : ∃ f fd ds, FnOk P w K mg base (CXe P w) k f fd ps sp ∧ mg x = some (.ref f) ∧ PySem.W.keepIn K (.ref f) = true ∧ Vals dvs ds ∧ ∀ i, i ≤ dvs.length → Binds K fd ps (ds.drop i)
section
variable {P : Program} {w : World} {K : PySem.W.Frag} {mg : Str → Option Value} {base : Heap} {x qual : Str} {st : Stmt} {f : Addr} {fd : FuncData} {N ps : List Str} {k : Nat} {sp : Sp} {dvs : List V}
theorem FunD.callee (F : FunD K x qual st dvs f fd) (m : mg x = some (.ref f)) (h : FnOk P w K mg base (CXe P w) k f fd ps sp)
    (hb : ∀ (i : Nat), i ≤ dvs.length → ∀ (T : Addr) (kV doc pm : Value) (an : Option Addr) (cdv ct : Value) (items : Array Value) (us : List Value), items.toList.length = dvs.length → (us ++ items.toList.drop i).length = ps.length →
      ∃ k, bindArgs (PySem.W.fnOf x qual (defArgs st) (defBody st) (defScope st) (.ref T) kV doc pm an cdv ct) ⟨us, []⟩ = seqItems? (.ref T) >>= k ∧ k (some items) = pure (ps.zip (us ++ items.toList.drop i))) :
    CalleeD P w K mg base k x ps dvs sp := by
  obtain ⟨T, oc, od, kV, doc, pm, an, cdv, ct, osl, o, items, n, rfl, lk, hcd, lT, hd, hv⟩ := F.ex
  refine ⟨f, _, items.toList, h, m, F.kp, hv, fun i hi s us kin hl => ?_⟩
  obtain ⟨k', e1, e2⟩ := hb i hi T kV doc pm an cdv ct items us hv.length.symm hl
  exact BindsTo.of_defaults (T := T) rfl (kin _ _ lT) hd e1 e2
theorem FunD.okE (F : FunD K x qual st dvs f fd) (S : FnScope N ps (defScope st)) (len : ∀ vs H Q E, sp vs H Q E → vs.length = ps.length)
    (hbody : ∀ (cdv : Value) (A : Around) (outer : List Env) (s : Shared) (H : Hp) (vs : List V) (Q : VK) (E : XK), Room k (A.deeper (envOfC qual (defScope st) s.heap.objs.size f cdv)) → sp vs H Q E →
      ∃ t, PSs (cxOf (CXe P w) P w K mg base N qual (defScope st) f cdv A outer s H E).nox (defBody st) t ∧ t { nx := fun _ H' => Q .non H', rt := Q } (start N vs) H) : FnOk P w K mg base (CXe P w) (k + 1) f fd ps sp := by
  obtain ⟨T, oc, od, kV, doc, pm, an, cdv, ct, osl, o, items, n, rfl, lk, hcd, lT, hd, hv⟩ := F.ex
  refine fn_of lk hcd S len fun A outer s H vs Q E hr hsp => ?_
  obtain ⟨t, h, q⟩ := hbody cdv A outer s H vs Q E hr hsp
  exact ⟨t, h.nox, q⟩
theorem FunD.okX (F : FunD K x qual st dvs f fd) (S : FnScope N ps (defScope st)) (len : ∀ vs H Q E, sp vs H Q E → vs.length = ps.length)
    (hbody : ∀ (cdv : Value) (A : Around) (outer : List Env) (s : Shared) (H : Hp) (vs : List V) (Q : VK) (E : XK), Room k (A.deeper (envOfC qual (defScope st) s.heap.objs.size f cdv)) → sp vs H Q E →
      ∃ t, PSs (cxOf (CXe P w) P w K mg base N qual (defScope st) f cdv A outer s H E) (defBody st) t ∧ t { nx := fun _ H' => Q .non H', rt := Q } (start N vs) H) : FnOk P w K mg base (CXe P w) (k + 1) f fd ps sp := by
  obtain ⟨T, oc, od, kV, doc, pm, an, cdv, ct, osl, o, items, n, rfl, lk, hcd, lT, hd, hv⟩ := F.ex
  exact fn_of lk hcd S len fun A outer s H vs Q E hr hsp => hbody cdv A outer s H vs Q E hr hsp
end
section
variable {X : Cx} {k : Nat} {sp : Sp} {ps : List Str} {dvs : List V} {x : Str} {p pos : Pos} {e : Expr} {es : List Expr} {t : TA}
theorem pe_cD {E : XK} (m : Nat) (G : CalleeD X.prog X.w X.K X.mg X.base k x ps dvs sp) (hr : Room k X.A) (hx : Passes (CXe X.prog X.w) X E) (ha : PA X (e :: es) t) (hm : m ≤ dvs.length := by decide) (hg : Gl X x := by rfl)
    (hdb : (x == ("__debug__" : Str)) = false := by decide) (he : starEach (e :: es) X.env = (false, eval e X.env) :: starEach es X.env := by rfl) (hpl : (backTo pos (starEach es X.env)).any (·.1) = false := by rfl) :
    PE X (.Call (.Name x p) (e :: es) [] pos) (tCall sp (dvs.drop m) E t) := by
  obtain ⟨f, fd, ds, F, mm, kp, hv, b⟩ := G.ex
  exact pe_call F hr hg mm kp (b m hm) (hv.drop' m) hx ha hdb he hpl
end
def FR2 (i : Int) (n : Nat) (g : TG) (tb : TS) (D : Ends) (σ : St) (H : Hp) : Prop := ∃ Pv : Nat → St → Hp → Prop, Pv 0 σ H ∧ (∀ m σ H, m < n → Pv m σ H → g (.int (i + m)) σ H fun σ2 H2 => tb { D with nx := Pv (m + 1), ct := Pv (m + 1), bk := D.nx } σ2 H2) ∧ ∀ σ H, Pv n σ H → D.nx σ H
def tForR2 (te te2 : TE) (g : TG) (tb : TS) : TS := fun D σ H => te σ H fun v H1 => te2 σ H1 fun v2 H2 => ∃ i : Int, v = .int i ∧ ∃ j : Int, v2 = .int j ∧ (-(2 ^ 62) ≤ i ∧ i < 2 ^ 62 ∧ -(2 ^ 62) ≤ j ∧ j < 2 ^ 62) ∧ FR2 i (j - i).toNat g tb D σ H2
section
variable {X : Cx} {tg a b : Expr} {body : List Stmt} {te te2 : TE} {g : TG} {tb : TS} {p pos pos' : Pos}
theorem ps_forR2 (hc : X.calm = true) (hp : PassesOwn (model X.prog X.w) X.A X.env X.xe) (hm : X.mg "range" = none) (ha : PE X a te) (hb2 : PE X b te2) (hgt : PG X tg g) (hb : PSs X body tb) (hg : Gl X "range" := by rfl)
    (hs : starEach [a, b] X.env = [(false, eval a X.env), (false, eval b X.env)] := by rfl) (hs2 : starEach [b] X.env = [(false, eval b X.env)] := by rfl) :
    PS X (.For tg (.Call (.Name "range" p) [a, b] [] pos') body [] pos) (tForR2 te te2 g tb) := by
  intro pins s σ H D I h
  refine ps_for hp hc (pi_range2 hg hm (pa_cons ha.mo (pa_cons hb2.mo pa_nil (by rw [hs2]; rfl)) (by rw [hs, hs2])) hs hs2) hgt hb (by intro _; rfl) pins s σ H D I ?_
  refine ⟨_, h, fun v H1 h2 => ⟨_, h2, fun v2 H2 ⟨i, e1, j, e2, bd, Pv, p0, pt, pd⟩ => ⟨i, j, by rw [e1, e2], bd, ?_⟩⟩⟩
  exact for_range (lo := i) (n := (j - i).toNat) Pv p0 pt pd
end
section
variable {X : Cx}
end
theorem CO.frsP {K : PySem.W.Frag} {n : Nat} {src : Nat → Hp → V → Prop} {st : Hp → Prop} {js : List (Option Nat)} {tl : TE} {σ : St} {H1 : Hp} {Q : VK} (P : Rat → Prop) (hn : n ≤ 1000) (hst : ∀ H, Same H1 H → st H)
    (hel : ∀ i H x (R : VK), i < n → Same H1 H → src i H x → (∀ r H3 q, Same H H3 → Fq K H3 r q → P q → R (.ref r) H3) → tl (some x :: cσ js σ) H R)
    (hq : ∀ D H xs f, Same H1 H → H1 D = none → H D = some (.lst xs) → Frs K H f xs → f.length = n → (∀ q ∈ f, P q) → Q (.ref D) H) : CO n src st (none :: js) (gName 0) tl σ H1 Q := by
  intro D hD
  refine ⟨fun i ys σc H => (∃ r, σc = r :: cσ js σ) ∧ Same H1 H ∧ H D = some (.lst ys) ∧ ∃ f, Frs K H f ys ∧ f.length = i ∧ ∀ q ∈ f, P q, ⟨⟨none, rfl⟩, same_upd hD, upd_same, [], Frs.nil, rfl, fun q hq => nomatch hq⟩, fun i ys σc H _ h => hst H h.2.1, ?_, ?_⟩
  · rintro i ys σc H x hi ⟨⟨r, rfl⟩, sm, hd, f, hf, lf, pf⟩ hx
    refine hel i H x _ hi sm hx fun p H3 q s3 hy hP => ?_
    have hl := hf.len
    refine ⟨s3 _ _ hd, small1000 (by omega), ⟨_, rfl⟩, (sm.trans s3).updL hD, upd_same, f ++ [q], Frs.snoc (Frs.updL (s3 _ _ hd) (hf.same s3)) (SqT.updL (s3 _ _ hd) hy), by simp [lf], ?_⟩
    intro q' hq'
    rcases List.mem_append.mp hq' with z | z
    · exact pf q' z
    · rw [List.mem_singleton.mp z]; exact hP
  · rintro ys σc H ⟨_, sm, hd, f, hf, lf, pf⟩
    exact ⟨hd, hq D H ys f sm hD hd hf lf pf⟩
end L2
namespace L2
open PySem PySem.Spec PyProof.Rows
section
variable {X : Cx}
end
end L2
namespace L2
open PySem PySem.Spec PyProof.Rows
def tVs (vs : List V) : TA := fun _ H Q => Q vs H
end L2
namespace L2
open PySem PySem.Spec PyProof.Rows
section
variable {X : Cx} {e a b : Expr} {es : List Expr} {te ta tb : TE} {t u : TS} {tx : TA} {st : Stmt} {rest body orelse : List Stmt} {pos : Pos}
end
end L2
namespace L2
open PySem PySem.Spec PyProof.Rows
theorem kit_lst_lst (K : PySem.W.Frag) : PySem.W.kitOne K (.type "list") (.type "list") = some true := by
  unfold PySem.W.kitOne
  rw [if_pos (by decide)]
theorem isi_ll {K : PySem.W.Frag} {H : Hp} {Q : VK} {p : Addr} {xs : List V} (h : H p = some (.lst xs)) (q : Q (.bl true) H) : rIsi K [.ref p, .ty "list"] H Q := ⟨_, _, _, _, _, rfl, rfl, .of (.lst h), kit_lst_lst K, q⟩
end L2
namespace L2
open PySem PySem.Spec PyProof.Rows
section
variable {prog : Program} {w : World} {A : Around} {E : Value → Shared → Prop} {s : Shared}
end
end L2
namespace L2
open PySem PySem.Spec PyProof.Rows
section
variable {X : Cx} {es : List Expr} {y1 : Nat} {tp : Pos}
end
def CZ (xs ys : List V) (at_ : Hp → Prop) (js : List (Option Nat)) (g : TG) (tl : TE) (σ : St) (H1 : Hp) (Q : VK) : Prop := ∀ D, H1 D = none → ∃ Pv : Nat → List V → St → Hp → Prop, Pv 0 [] (cσ js σ) (upd H1 D (.lst [])) ∧ (∀ i zs σc H, i ≤ xs.length → Pv i zs σc H → at_ H) ∧
  (∀ i zs σc H x y t, xs[i]? = some x → ys[i]? = some y → Pv i zs σc H → H t = none → g (.ref t) σc (upd H t (.tup [x, y])) fun σ2 H2 => tl σ2 H2 fun v H3 => H3 D = some (.lst zs) ∧ zs.length < sizeLine ∧ Pv (i + 1) (zs ++ [v]) σ2 (upd H3 D (.lst (zs ++ [v])))) ∧
  ∀ zs σc H, Pv xs.length zs σc H → H D = some (.lst zs) ∧ Q (.ref D) H
def tCoZ (K : PySem.W.Frag) (js : List (Option Nat)) (te te2 : TE) (g : TG) (tl : TE) : TE := fun σ H Q => te σ H fun v H1 => te2 σ H1 fun v2 H2 => ∃ l, v = .ref l ∧ ∃ m, v2 = .ref m ∧ ∃ xs ys, SqT K H2 l xs ∧ SqL K H2 m ys ∧ xs.length = ys.length ∧ CZ xs ys (fun H => SqT K H l xs ∧ SqL K H m ys) js g tl σ H2 Q
section
variable {X : Cx} {es : List Expr} {y1 : Nat} {tp : Pos} {a b elt : Expr} {te te2 tl : TE} {g : TG} {p pos pos' : Pos} {scope : Scope} {js : List (Option Nat)}
end
end L2
namespace L2
open PySem PySem.Spec PyProof.Rows
section
variable {κ : Type} [DecidableEq κ]
def valV (kvs : List (κ × V)) (k : κ) : Option V := (kvs.find? fun kv => decide (kv.1 = k)).map (·.2)
def putK (kvs : List (κ × V)) (k : κ) (v : V) : List (κ × V) :=
  if (kvs.any fun kv => decide (kv.1 = k)) = true then kvs.map (fun kv => if kv.1 = k then (kv.1, v) else kv) else kvs ++ [(k, v)]
def dropK (kvs : List (κ × V)) (k : κ) : List (κ × V) := kvs.filter fun kv => decide (kv.1 ≠ k)
theorem RelO.getD {o : Option V} {u : Option Value} {d : V} {d' : Value} (r : RelO o u) (rd : RelV d d') : RelV (o.getD d) (u.getD d') := by
  cases o with
  | none => cases u with
    | none => exact rd
    | some _ => exact (show False from r).elim
  | some _ => cases u with
    | none => exact (show False from r).elim
    | some _ => exact r
theorem KV.any {kvs : List (κ × V)} {vs : List (κ × Value)} (r : KV kvs vs) (k : κ) : (kvs.any fun kv => decide (kv.1 = k)) = vs.any fun kv => decide (kv.1 = k) := by
  unfold KV at r
  induction r with
  | nil => rfl
  | cons h t ih => rw [List.any_cons, List.any_cons, ih, h.1]
theorem KV.drop {kvs : List (κ × V)} {vs : List (κ × Value)} (r : KV kvs vs) (k : κ) : KV (dropK kvs k) (without vs k) := by
  unfold KV at r ⊢
  unfold dropK without
  induction r with
  | nil => exact .nil
  | @cons p q ps qs h t ih =>
    obtain ⟨h1, h2⟩ := h
    rw [List.filter_cons, List.filter_cons]
    by_cases e : p.1 = k
    · have a : ¬ decide (p.1 ≠ k) = true := by simp [e]
      have b : ¬ decide (q.1 ≠ k) = true := by simp [h1.symm.trans e]
      rw [if_neg a, if_neg b]; exact ih
    · have e' : ¬ q.1 = k := fun z => e (h1.trans z)
      have a : decide (p.1 ≠ k) = true := by simp [e]
      have b : decide (q.1 ≠ k) = true := by simp [e']
      rw [if_pos a, if_pos b]; exact .cons ⟨h1, h2⟩ ih
theorem KV.length {kvs : List (κ × V)} {vs : List (κ × Value)} (r : KV kvs vs) : kvs.length = vs.length := Paired.length r
end
abbrev KT (H : Hp) : List (List Key × V) → List (List Key × Addr × Value) → Prop := Paired fun p q => p.1 = q.1 ∧ H q.2.1 = some (.tup (p.1.map kV)) ∧ RelV p.2 q.2.2
theorem KT.keeps {H H' : Hp} {kvs : List (List Key × V)} {xs : List (List Key × Addr × Value)} (r : KT H kvs xs) (ht : ∀ b ys, H b = some (.tup ys) → H' b = some (.tup ys)) : KT H' kvs xs :=
  Paired.mapP r fun _ _ z => ⟨z.1, ht _ _ z.2.1, z.2.2⟩
section
variable {P : Program} {w : World} {H : Hp} {h : Heap} {a : Addr}
end
def DGet (H : Hp) (a : Addr) (y : V) (r : Option V) : Prop :=
  (∃ kvs k, Rd H a (.dK kvs) ∧ y = kV k ∧ r = valV kvs k) ∨ ∃ kvs k b, Rd H a (.dT kvs) ∧ y = .ref b ∧ H b = some (.tup (k.map kV)) ∧ r = valV kvs k
def DPut (H : Hp) (a : Addr) (y v : V) (H' : Hp) : Prop :=
  (∃ kvs k, H a = some (.dK kvs) ∧ y = kV k ∧ kvs.length < sizeLine ∧ H' = upd H a (.dK (putK kvs k v))) ∨
  ∃ kvs k b, H a = some (.dT kvs) ∧ y = .ref b ∧ H b = some (.tup (k.map kV)) ∧ kvs.length < sizeLine ∧ H' = upd H a (.dT (putK kvs k v))
theorem DGet.k {H : Hp} {a : Addr} {kvs : List (Key × V)} {k : Key} (e : H a = some (.dK kvs)) : DGet H a (kV k) (valV kvs k) := .inl ⟨kvs, k, .inl e, rfl, rfl⟩
theorem DGet.t {H : Hp} {a b : Addr} {kvs : List (List Key × V)} {k : List Key} (e : H a = some (.dT kvs)) (eb : H b = some (.tup (k.map kV))) : DGet H a (.ref b) (valV kvs k) := .inr ⟨kvs, k, b, .inl e, rfl, eb, rfl⟩
theorem DPut.k {H : Hp} {a : Addr} {kvs : List (Key × V)} {k : Key} {v : V} (e : H a = some (.dK kvs)) (hl : kvs.length < sizeLine) : DPut H a (kV k) v (upd H a (.dK (putK kvs k v))) := .inl ⟨kvs, k, e, rfl, hl, rfl⟩
theorem DPut.t {H : Hp} {a b : Addr} {kvs : List (List Key × V)} {k : List Key} {v : V} (e : H a = some (.dT kvs)) (eb : H b = some (.tup (k.map kV))) (hl : kvs.length < sizeLine) :
    DPut H a (.ref b) v (upd H a (.dT (putK kvs k v))) := .inr ⟨kvs, k, b, e, rfl, eb, hl, rfl⟩
section
variable {X : Cx} {pins : List (Addr × Obj)} {σ : St} {H : Hp} {s : Shared} {a : Addr} {y v : V} {u r : Value} {o : Option V} {A : Around} {E : Value → Shared → Prop}
theorem Inv.big (I : Inv X pins σ H s) : sysModules < s.heap.objs.size := by
  have h : mainGlobals < s.heap.objs.size := (I.mod.glob.keeps I.bk).lt
  exact Nat.lt_trans (by decide) h
end
section
variable {X : Cx} {pins : List (Addr × Obj)} {σ : St} {H : Hp} {s : Shared} {a : Addr} {kvs : List (Key × V)} {k : Key} {u : Value} {A : Around} {E : Value → Shared → Prop}
end
def sDPut (td ty tv : TE) : TS := fun D σ H => tv σ H fun v H1 => td σ H1 fun x H2 => ty σ H2 fun y H3 => ∃ a H4, x = .ref a ∧ DPut H3 a y v H4 ∧ D.nx σ H4
section
variable {X : Cx} {o i e value : Expr} {pos pos' tpos : Pos} {td ty tv : TE}
end
def tDNewK : TE := fun _ H Q => ∀ p, H p = none → Q (.ref p) (upd H p (.dK []))
section
variable {X : Cx} {pos : Pos}
end
def tPairs : List (TE × TE) → St → Hp → (List (V × V) → Hp → Prop) → Prop
  | [], _, H, Q => Q [] H
  | (tk, tv) :: r, σ, H, Q => tk σ H fun x H1 => tv σ H1 fun y H2 => tPairs r σ H2 fun ps H3 => Q ((x, y) :: ps) H3
def mergeK (kvs more : List (Key × V)) : List (Key × V) := more.foldl (fun acc kv => putK acc kv.1 kv.2) kvs
def tDisp (trs : List (TE × TE)) : TE := fun σ H Q => ∀ p, H p = none → tPairs trs σ (upd H p (.dK [])) fun ps H2 => H2 p = some (.dK []) ∧ ∃ kvs : List (Key × V), ps = kvs.map (fun kv => (kV kv.1, kv.2)) ∧ kvs.length ≤ 15 ∧ Q (.ref p) (upd H2 p (.dK (mergeK [] kvs)))
def IsD (H : Hp) (a : Addr) : Prop := (∃ kvs, Rd H a (.dK kvs)) ∨ ∃ kvs, Rd H a (.dT kvs)
section
variable {X : Cx} {pins : List (Addr × Obj)} {σ : St} {H : Hp} {s : Shared} {a : Addr} {y d : V} {u r : Value} {o : Option V} {A : Around} {E : Value → Shared → Prop}
end
def tDGet2 (td ty tx : TE) : TE := fun σ H Q => td σ H fun x H1 => ∃ a, x = .ref a ∧ IsD H1 a ∧ ty σ H1 fun y H2 => tx σ H2 fun z H3 => ∃ o, DGet H3 a y o ∧ Q (o.getD z) H3
section
variable {X : Cx} {o e f : Expr} {apos cpos : Pos} {td ty tx : TE}
end
section
variable {X : Cx} {pins : List (Addr × Obj)} {σ : St} {H : Hp} {s : Shared} {a : Addr} {kvs : List (Key × V)} {A : Around} {E : Value → Shared → Prop}
end
section
variable {X : Cx} {pins : List (Addr × Obj)} {σ : St} {H : Hp} {s : Shared} {a : Addr} {y : V} {u : Value} {A : Around} {E : Value → Shared → Prop}
end
end L2
namespace L2
open PySem PySem.Spec PyProof.Rows
structure KD (w : World) (K : PySem.W.Frag) (R : Addr) (kvs : List (Key × V)) : Prop where
  ex : ∃ (o : Obj) (es : Array DictEntry) (ep : Nat) (vs : List (Key × Value)), K.lookup R = some o ∧ o.ExactDict ∧ o.data = .dict es ep ∧ (∀ P, KeysOf (mixKind P w) es) ∧ (∀ P, Pairs (mixKind P w) es.toList vs) ∧ (vs.map (·.1)).Nodup ∧ KV kvs vs
  sm : (R == sysModules) = false
section
variable {X : Cx} {R : Addr} {kvs : List (Key × V)}
theorem KD.at {pins : List (Addr × Obj)} {σ : St} {H : Hp} {s : Shared} (d : KD X.w X.K R kvs) (I : Inv X pins σ H s) : ∃ vs, KV kvs vs ∧ s.heap.DictOf (mixKind X.prog X.w) R vs := by
  obtain ⟨o, es, ep, vs, lk, e1, e2, k1, k2, nd, rel⟩ := d.ex
  exact ⟨vs, rel, o, es, ep, I.kIn _ _ lk, e1, e2, k1 _, k2 _, nd⟩
end
end L2
namespace L2
open PySem PySem.Spec PyProof.Rows
section
variable {prog : Program} {w : World} {A : Around} {E : Value → Shared → Prop} {s : Shared}
end
section
variable {prog : Program} {w : World} {A : Around} {E : Value → Shared → Prop} {s : Shared}
end
section
variable {X : Cx} {es : List Expr} {y1 : Nat} {tp : Pos}
end
end L2
namespace L2
open PySem
end L2
namespace L2
open PySem PySem.Spec PyProof.Rows PySem.W
end L2
namespace L2
open PySem PySem.Spec PyProof.Rows
theorem KV.at {kvs : List (Key × V)} {vs : List (Key × Value)} (r : KV kvs vs) : ∀ {i : Nat} {p : Key × V}, kvs[i]? = some p → ∃ q, vs[i]? = some q ∧ p.1 = q.1 ∧ RelV p.2 q.2 := by
  unfold KV at r
  induction r with
  | nil => intro i p h; simp at h
  | cons h _ ih =>
    intro i p hx
    cases i with
    | zero => simp at hx; subst hx; exact ⟨_, rfl, h⟩
    | succ i => simpa using ih (by simpa using hx)
section
variable {X : Cx} {R : Addr} {kvs : List (Key × V)} {tg : Expr}
def FK (kvs : List (Key × V)) (g : TG) (tb : TS) (D : Ends) (σ : St) (H : Hp) : Prop := ∃ Pv : Nat → St → Hp → Prop, Pv 0 σ H ∧
  (∀ i k v σ H, kvs[i]? = some (k, v) → Pv i σ H → g (kV k) σ H fun σ2 H2 => tb { D with nx := Pv (i + 1), ct := Pv (i + 1), bk := D.nx } σ2 H2) ∧ ∀ σ H, Pv kvs.length σ H → D.nx σ H
def tForK (R : Addr) (kvs : List (Key × V)) (te : TE) (g : TG) (tb : TS) : TS := fun D σ H => te σ H fun v H1 => v = .ref R ∧ FK kvs g tb D σ H1
end
end L2
namespace Mt
def l1 (a : Rat) : List Rat := trim [1, -a]
def l2 (d : Rat) : List Rat := trim [0, 0, d]
def nxt (l d : Rat) (f g : List Rat) : List Rat := psub (pmul (l1 l) f) (pmul (l2 d) g)
def en (L D : Nat → Rat) (a b : List Rat) : Nat → List Rat
  | 0 => a
  | 1 => b
  | n + 2 => nxt (L (n + 1)) (D n) (en L D a b (n + 1)) (en L D a b n)
def sh (f : List Rat) (i k : Nat) : Rat := if i ≤ k then cf f (k - i) else 0
theorem mc_ext_left {f f' : List Rat} (e : ∀ n, cf f n = cf f' n) (g : List Rat) (n : Nat) : mc f g n = mc f' g n := by
  rw [mc_comm f g, mc_comm f' g, mc_ext g e]
theorem NZ.le {f : List Rat} (h : NZ f) {n : Nat} (z : ∀ k, n ≤ k → cf f k = 0) : f.length ≤ n := by
  rcases h with rfl | h
  · simp
  · rcases Nat.lt_or_ge n f.length with y | y
    · exact absurd (z _ (by omega)) h
    · exact y
abbrev A0 : Nat := 1000001 * B0
def Gp (n : Nat) (f : List Rat) : Prop := ∀ k, Lat (B0 ^ n) (A0 ^ n) (cf f k)
theorem Gp.nil {n : Nat} : Gp n [] := fun k => by rw [cf_nil]; exact Lat.zero
theorem Gp.sh {n : Nat} {f : List Rat} (h : Gp n f) (i k : Nat) : Lat (B0 ^ n) (A0 ^ n) (sh f i k) := by
  unfold Mt.sh
  split
  · exact h _
  · exact Lat.zero
theorem gp_one : Gp 0 [1] := fun k => by
  rcases k with _ | k
  · rw [cf_zero]; exact Lat.one
  · rw [cf_succ, cf_nil]; exact Lat.zero
theorem gp_one1 : Gp 1 [1] := fun k => by
  have h := (gp_one k).up (E := B0)
  simp only [Nat.pow_zero, Nat.one_mul] at h
  rw [Nat.pow_one, Nat.pow_one]
  exact h.mono (by decide)
theorem Gp.ln {n : Nat} {f : List Rat} (h : Gp n f) (hn : n ≤ 9) : Ln 320 320 f := by
  refine ⟨B0 ^ n, A0 ^ n, Nat.pow_pos (by decide), ?_, ?_, h⟩
  · exact Nat.le_trans (Nat.pow_le_pow_right (by decide) hn) (by decide +kernel)
  · exact Nat.le_trans (Nat.pow_le_pow_right (by decide) hn) (by decide +kernel)
def tp (L D : List Rat) (n : Nat) : List Rat := en (cf L) (cf D) [] [1] n
def bt (L D : List Rat) (n : Nat) : List Rat := en (cf L) (cf D) [1] (l1 (cf L 0)) n
theorem NZ_one : NZ [1] := .inr (by show cf [1] 0 ≠ 0; rw [cf_zero]; decide)
end Mt
namespace L2
open PySem PySem.Spec PyProof.Rows
def Pls (K : PySem.W.Frag) (H : Hp) (fs : List (List Rat)) (xs : List V) : Prop := xs.length = fs.length ∧ ∀ (j : Nat) (f : List Rat), fs[j]? = some f → ∃ p, xs[j]? = some (V.ref p) ∧ Pl K H p f
theorem Pls.nil {K : PySem.W.Frag} {H : Hp} : Pls K H [] [] := ⟨rfl, fun j f h => by simp at h⟩
theorem Pls.same {K : PySem.W.Frag} {H H' : Hp} {fs : List (List Rat)} {xs : List V} (h : Pls K H fs xs) (e : Same H H') : Pls K H' fs xs := ⟨h.1, fun j f z => let ⟨p, e1, q⟩ := h.2 j f z; ⟨p, e1, q.same e⟩⟩
theorem Pls.updL {K : PySem.W.Frag} {H : Hp} {D : Addr} {ys : List V} {o : HO} {fs : List (List Rat)} {xs : List V} (hD : H D = some (.lst ys)) (h : Pls K H fs xs) : Pls K (upd H D o) fs xs := ⟨h.1, fun j f z => let ⟨p, e1, q⟩ := h.2 j f z; ⟨p, e1, q.updL hD⟩⟩
theorem Pls.snoc {K : PySem.W.Frag} {H : Hp} {fs : List (List Rat)} {xs : List V} {p : Addr} {f : List Rat} (h : Pls K H fs xs) (k : Pl K H p f) : Pls K H (fs ++ [f]) (xs ++ [.ref p]) := by
  refine ⟨by simp [h.1], fun j g z => ?_⟩
  rcases Nat.lt_or_ge j fs.length with l | l
  · rw [List.getElem?_append_left l] at z
    obtain ⟨q, e, hq⟩ := h.2 j g z
    exact ⟨q, by rw [List.getElem?_append_left (by rw [h.1]; exact l)]; exact e, hq⟩
  · rw [List.getElem?_append_right l] at z
    have j0 : j = fs.length := by
      rcases Nat.lt_or_ge (j - fs.length) 1 with y | y
      · omega
      · rw [List.getElem?_eq_none (by simpa using y)] at z; cases z
    subst j0
    simp at z
    subst z
    exact ⟨p, by rw [← h.1]; simp, k⟩
theorem Pls.cons {K : PySem.W.Frag} {H : Hp} {fs : List (List Rat)} {xs : List V} {p : Addr} {f : List Rat} (k : Pl K H p f) (h : Pls K H fs xs) : Pls K H (f :: fs) (.ref p :: xs) := by
  refine ⟨by simp [h.1], fun j g z => ?_⟩
  rcases j with _ | j
  · simp at z; subst z; exact ⟨p, rfl, k⟩
  · simp at z; exact h.2 j g z
theorem Pls.at {K : PySem.W.Frag} {H : Hp} {m : Nat} {F : Nat → List Rat} {xs : List V} (h : Pls K H ((List.range m).map F) xs) {j : Nat} (hj : j < m) : ∃ p, xs[j]? = some (.ref p) ∧ Pl K H p (F j) := h.2 j (F j) (by simp [hj])
theorem Pls.len {K : PySem.W.Frag} {H : Hp} {m : Nat} {F : Nat → List Rat} {xs : List V} (h : Pls K H ((List.range m).map F) xs) : xs.length = m := by rw [h.1]; simp
theorem Pls.more {K : PySem.W.Frag} {H : Hp} {m : Nat} {F : Nat → List Rat} {xs : List V} {p : Addr} (h : Pls K H ((List.range m).map F) xs) (k : Pl K H p (F m)) : Pls K H ((List.range (m + 1)).map F) (xs ++ [.ref p]) := by
  rw [List.range_succ, List.map_append]; exact h.snoc k
end L2
namespace Mt
def wr (L D : List Rat) (n k : Nat) : Rat := mc (tp L D (n + 1)) (bt L D n) k - mc (tp L D n) (bt L D (n + 1)) k
end Mt
namespace L2
open PySem PySem.Spec PyProof.Rows
end L2
namespace L2
open PySem PySem.Spec PyProof.Rows
section
variable {prog : Program} {w : World} {A : Around} {E : Value → Shared → Prop} {s : Shared}
end
def ExcAt (e0 : Addr) (H : Hp) : Prop := ∃ cls dv, H e0 = some (excD e0 cls dv)
section
variable {X : Cx} {tg : Expr}
def tCoRH (e0 : Addr) (js : List (Option Nat)) (te : TE) (g : TG) (tl : TE) : TE := fun σ H Q => te σ H fun v H1 => ∃ j : Int, v = .int j ∧ -(2 ^ 62) ≤ j ∧ j < 2 ^ 62 ∧ CO j.toNat (fun i _ x => x = .int i) (ExcAt e0) js g tl σ H1 Q
end
section
variable {X : Cx} {CX : CXT} {k : Nat} {f : Addr} {fd : FuncData} {ps : List Str}  {dvs : List V} {ds : List Value} {E : XK} {x : Str} {p pos : Pos} {e : Expr} {es : List Expr} {t : TA}
end
section
variable {P : Program} {w : World} {K : PySem.W.Frag} {mg : Str → Option Value} {base : Heap} {x qual : Str} {st : Stmt} {f : Addr} {fd : FuncData} {N ps : List Str} {k : Nat} {sp : Addr → Sp}
end
def tHE (K : PySem.W.Frag) (c : Value) (i : Nat) (ts : Addr → TS) (th : TH) : TH := fun cls dv D σ H =>
  (PySem.W.exmOne K cls c = some true ∧ ∀ e, H e = none → ts e (D.gone i) (σ.set i (some (.ref e))) (upd H e (excD e cls dv))) ∨ (PySem.W.exmOne K cls c = some false ∧ th cls dv D σ H)
end L2
namespace L2
open PySem PySem.Spec PyProof.Rows
def FZ (xs ys : List V) (at_ : Hp → Prop) (g : TG) (tb : TS) (D : Ends) (σ : St) (H : Hp) : Prop := ∃ Pv : Nat → St → Hp → Prop, Pv 0 σ H ∧ (∀ i σ H, i ≤ xs.length → Pv i σ H → at_ H) ∧
  (∀ i x y σ H t, xs[i]? = some x → ys[i]? = some y → Pv i σ H → H t = none → g (.ref t) σ (upd H t (.tup [x, y])) fun σ2 H2 => tb { D with nx := Pv (i + 1), ct := Pv (i + 1), bk := D.nx } σ2 H2) ∧ ∀ σ H, Pv xs.length σ H → D.nx σ H
def tForZ (K : PySem.W.Frag) (te te2 : TE) (g : TG) (tb : TS) : TS := fun D σ H => te σ H fun v H1 => te2 σ H1 fun v2 H2 => ∃ l, v = .ref l ∧ ∃ m, v2 = .ref m ∧ ∃ xs ys, SqT K H2 l xs ∧ SqL K H2 m ys ∧ xs.length ≤ ys.length ∧ FZ xs ys (fun H => SqT K H l xs ∧ SqL K H m ys) g tb D σ H2
section
variable {X : Cx} {es : List Expr} {y1 : Nat} {tp : Pos} {a b : Expr} {te te2 : TE} {g : TG} {tb : TS} {body : List Stmt} {p pos pos' : Pos}
end
end L2
namespace L2
open PySem PySem.Spec PyProof.Rows
theorem pe_comp3 {X : Cx} {elt iter tg : Expr} {scope : Scope} (Nl : List Str) (y1 : Str) (j1 : Nat) (y2 : Str) (j2 : Nat) (y3 : Str) (j3 : Nat) {c1 c2 c3 : Addr} {wi : TI} {g : TG} {te : TE} {pos : Pos} (hc : X.calm = true) (hi : PI X tg iter wi)
    (hg : ∀ C s₀ H₀ ex pn, PG (X.cp (Nl ++ [y1, y2, y3]) scope [(y1, c1), (y2, c2), (y3, c3)] C s₀ H₀ ex pn) tg g) (he : ∀ C s₀ H₀ ex pn, PE (X.cp (Nl ++ [y1, y2, y3]) scope [(y1, c1), (y2, c2), (y3, c3)] C s₀ H₀ ex pn) elt te)
    (hclos : closureFor scope X.env = pure [(y1, c1), (y2, c2), (y3, c3)]) (hy1 : X.env.cells.lookup y1 = some c1) (hy2 : X.env.cells.lookup y2 = some c2) (hy3 : X.env.cells.lookup y3 = some c3) (hN1 : X.N[j1]? = some y1) (hN2 : X.N[j2]? = some y2) (hN3 : X.N[j3]? = some y3)
    (hk1 : X.env.kindOf y1 = some .cell) (hk2 : X.env.kindOf y2 = some .cell) (hk3 : X.env.kindOf y3 = some .cell) (hb1 : (relabel scope X.env).names.lookup y1 = some .cell) (hb2 : (relabel scope X.env).names.lookup y2 = some .cell) (hb3 : (relabel scope X.env).names.lookup y3 = some .cell)
    (hne : y2 ≠ y1 := by decide) (hne3 : y3 ≠ y1 := by decide) (hne4 : y3 ≠ y2 := by decide) (h1 : ∀ p ∈ scope.names, p.2 = .free → p.1 = y1 ∨ p.1 = y2 ∨ p.1 = y3 := by decide +kernel) (hcell : ∀ y ∈ scope.names, y.2 ≠ .cell := by decide +kernel) (hkind : scope.kind = .function := by rfl)
    (hnames : ∀ y ∈ scope.names, y.2 = .local → scope.names.lookup y.1 = some .local := by decide +kernel)
    (hs : ∀ x, foldedSetIterable iter X.env x = pure x := by intro _; rfl) : PCo X (.ListComp elt [⟨tg, iter, [], 0⟩] scope pos) scope iter (tComp ((Nl.map fun _ => none) ++ [some j1, some j2, some j3]) wi g te) := by
  have self1 : List.lookup y1 [(y1, c1), (y2, c2), (y3, c3)] = some c1 := by simp
  have self2 : List.lookup y2 [(y1, c1), (y2, c2), (y3, c3)] = some c2 := by
    rw [List.lookup_cons, show (y2 == y1) = false from beq_eq_false_iff_ne.mpr hne]; simp
  have self3 : List.lookup y3 [(y1, c1), (y2, c2), (y3, c3)] = some c3 := by
    rw [List.lookup_cons, show (y3 == y1) = false from beq_eq_false_iff_ne.mpr hne3]
    simp only
    rw [List.lookup_cons, show (y3 == y2) = false from beq_eq_false_iff_ne.mpr hne4]; simp
  have look : ∀ z d, List.lookup z [(y1, c1), (y2, c2), (y3, c3)] = some d → (z = y1 ∧ d = c1) ∨ (z = y2 ∧ d = c2) ∨ (z = y3 ∧ d = c3) := fun z d h => by
    have m := PySem.mem_of_lookup h
    rcases List.mem_cons.mp m with q | q
    · cases q; exact .inl ⟨rfl, rfl⟩
    · rcases List.mem_cons.mp q with q | q
      · cases q; exact .inr (.inl ⟨rfl, rfl⟩)
      · cases List.mem_singleton.mp q; exact .inr (.inr ⟨rfl, rfl⟩)
  refine pe_comp (cl := [(y1, c1), (y2, c2), (y3, c3)]) (Nc := Nl ++ [y1, y2, y3]) hc hi hg he (by simp) (fun z d h => ?_) (fun z h => ?_) (fun i z j' e1 e2 => ?_) hclos hcell hkind hnames hs
  · rcases look z d h with ⟨rfl, rfl⟩ | ⟨rfl, rfl⟩ | ⟨rfl, rfl⟩
    · exact hy1
    · exact hy2
    · exact hy3
  · have m := h.elim (fun q => rel_mem q (.inl rfl) hcell) fun q => rel_mem q (.inr rfl) hcell
    rcases h1 _ m rfl with e | e | e
    · have e : z = y1 := e
      subst e; exact ⟨c1, self1⟩
    · have e : z = y2 := e
      subst e; exact ⟨c2, self2⟩
    · have e : z = y3 := e
      subst e; exact ⟨c3, self3⟩
  · have hi : i = Nl.length ∨ i = Nl.length + 1 ∨ i = Nl.length + 2 := by
      by_cases hlt : i < Nl.length
      · rw [List.getElem?_append_left (by simpa using hlt), List.getElem?_map] at e2
        cases q : Nl[i]? with
        | none => rw [q] at e2; cases e2
        | some z => rw [q] at e2; cases e2
      · have := (List.getElem?_eq_some_iff.mp e1).1
        simp at this
        omega
    rcases hi with rfl | rfl | rfl
    · have a1 : (Nl ++ [y1, y2, y3])[Nl.length]? = some y1 := by simp
      have a2 : ((Nl.map fun _ => (none : Option Nat)) ++ [some j1, some j2, some j3])[Nl.length]? = some (some j1) := by
        rw [List.getElem?_append_right (by simp)]; simp
      rw [a1] at e1; cases e1
      rw [a2] at e2; cases e2
      exact ⟨hN1, .inr (.inl hk1), by rw [hk1]; exact (fun q => nomatch q), .inl hb1, fun d h => by rw [hy1] at h; cases h; exact self1⟩
    · have a1 : (Nl ++ [y1, y2, y3])[Nl.length + 1]? = some y2 := by
        rw [List.getElem?_append_right (by omega)]; simp
      have a2 : ((Nl.map fun _ => (none : Option Nat)) ++ [some j1, some j2, some j3])[Nl.length + 1]? = some (some j2) := by
        rw [List.getElem?_append_right (by simp)]; simp
      rw [a1] at e1; cases e1
      rw [a2] at e2; cases e2
      exact ⟨hN2, .inr (.inl hk2), by rw [hk2]; exact (fun q => nomatch q), .inl hb2, fun d h => by rw [hy2] at h; cases h; exact self2⟩
    · have a1 : (Nl ++ [y1, y2, y3])[Nl.length + 2]? = some y3 := by
        rw [List.getElem?_append_right (by omega)]; simp
      have a2 : ((Nl.map fun _ => (none : Option Nat)) ++ [some j1, some j2, some j3])[Nl.length + 2]? = some (some j3) := by
        rw [List.getElem?_append_right (by simp)]; simp
      rw [a1] at e1; cases e1
      rw [a2] at e2; cases e2
      exact ⟨hN3, .inr (.inl hk3), by rw [hk3]; exact (fun q => nomatch q), .inl hb3, fun d h => by rw [hy3] at h; cases h; exact self3⟩
def Fls (K : PySem.W.Frag) (H : Hp) (gs : List (List Rat)) (xs : List V) : Prop := xs.length = gs.length ∧ ∀ (j : Nat) (g : List Rat), gs[j]? = some g → ∃ p ys, xs[j]? = some (V.ref p) ∧ H p = some (.lst ys) ∧ Frs K H g ys
theorem Fls.same {K : PySem.W.Frag} {H H' : Hp} {gs : List (List Rat)} {xs : List V} (h : Fls K H gs xs) (e : Same H H') : Fls K H' gs xs := ⟨h.1, fun j g z => let ⟨p, ys, e1, e2, q⟩ := h.2 j g z; ⟨p, ys, e1, e _ _ e2, q.same e⟩⟩
theorem cutV_mid (xs : List V) (i k : Nat) (h : i ≤ k) (h2 : k ≤ xs.length) : cutV xs (some (i : Int)) (some (k : Int)) = (xs.drop i).take (k - i) := by
  unfold cutV
  rw [HT.sIx_nat, HT.sIx_nat, Nat.min_eq_left (by omega), Nat.min_eq_left (by omega)]
theorem CO.elsD {n : Nat} {src : Nat → Hp → V → Prop} {st : Hp → Prop} {js : List (Option Nat)} {tl : TE} {σ : St} {H1 : Hp} {Q : VK} (G : Addr → Nat → Hp → V → Prop) (gs : ∀ D i H H' x, Same H H' → G D i H x → G D i H' x)
    (gu : ∀ D i H ys o x, H D = some (.lst ys) → G D i H x → G D i (upd H D o) x) (hn : n ≤ 1000) (hst : ∀ H, Same H1 H → st H)
    (hel : ∀ D i H x (R : VK), i < n → Same H1 H → H1 D = none → (∃ ys, H D = some (.lst ys)) → src i H x → (∀ r H3, Same H H3 → G D i H3 r → R r H3) → tl (some x :: cσ js σ) H R)
    (hq : ∀ D H (xs : List V), Same H1 H → H1 D = none → H D = some (.lst xs) → xs.length = n → (∀ (j : Nat) (x : V), xs[j]? = some x → G D j H x) → Q (.ref D) H) : CO n src st (none :: js) (gName 0) tl σ H1 Q := by
  intro D hD
  refine ⟨fun i ys σc H => (∃ r, σc = r :: cσ js σ) ∧ Same H1 H ∧ H D = some (.lst ys) ∧ ys.length = i ∧ ∀ (j : Nat) (x : V), ys[j]? = some x → G D j H x, ⟨⟨none, rfl⟩, same_upd hD, upd_same, rfl, fun j x h => by simp at h⟩, fun i ys σc H _ h => hst H h.2.1, ?_, ?_⟩
  · rintro i ys σc H x hi ⟨⟨r, rfl⟩, sm, hd, ly, hf⟩ hx
    refine hel D i H x _ hi sm hD ⟨ys, hd⟩ hx fun p H3 s3 hy => ?_
    refine ⟨s3 _ _ hd, small1000 (by omega), ⟨_, rfl⟩, (sm.trans s3).updL hD, upd_same, by simp [ly], fun j x z => ?_⟩
    refine gu D j H3 ys _ x (s3 _ _ hd) ?_
    rcases Nat.lt_or_ge j ys.length with l | l
    · rw [List.getElem?_append_left l] at z
      exact gs D j H H3 x s3 (hf j x z)
    · rw [List.getElem?_append_right l] at z
      have j0 : j = i := by
        rcases Nat.lt_or_ge (j - ys.length) 1 with y | y
        · omega
        · rw [List.getElem?_eq_none (by simpa using y)] at z; cases z
      subst j0
      rw [ly, Nat.sub_self] at z
      simp at z
      subst z
      exact hy
  · rintro ys σc H ⟨_, sm, hd, ly, hf⟩
    exact ⟨hd, hq D H ys sm hD hd ly hf⟩
end L2
namespace L2
open PySem PySem.Spec PyProof.Rows Builtin
section
variable {prog : Program} {w : World} {A : Around}
end
section
variable {prog : Program} {w : World} {A : Around} {E : Value → Shared → Prop} {s : Shared}
end
section
variable {prog : Program} {w : World} {A : Around} {s : Shared} {R : Result → Shared → Prop} {r l : Addr} {xs : Array Value}
end
section
variable {prog : Program} {w : World} {A : Around} {s : Shared} {R : Result → Shared → Prop}
variable {it : Addr} {fp wr : List Addr} {G : Array GenState → Array GenState → Prop} {n : Nat} {P : Nat → Value → Prop} {St : Nat → Shared → Prop}
end
section
variable {prog : Program} {w : World} {A : Around} {E : Value → Shared → Prop} {s : Shared}
variable {it : Addr} {fp wr : List Addr} {G : Array GenState → Array GenState → Prop} {n : Nat} {P : Nat → Value → Prop} {St : Nat → Shared → Prop}
end
section
variable {prog : Program} {w : World} {A : Around} {E : Value → Shared → Prop} {s : Shared} {r l : Addr} {xs : Array Value}
end
section
variable {X : Cx}
def tListRev (K : PySem.W.Frag) (te : TE) : TE := fun σ H Q => te σ H fun x H1 => ∃ a xs, x = .ref a ∧ (SqT K H1 a xs ∨ SqL K H1 a xs) ∧ ∀ l, H1 l = none → Q (.ref l) (upd H1 l (.lst xs.reverse))
end
end L2
namespace Mt
def dot (ms f : List Rat) : Rat := Su (fun n => cf f n * cf ms n) f.length
theorem Su_more (F : Nat → Rat) {n : Nat} (h : ∀ i, n ≤ i → F i = 0) : ∀ k, Su F (n + k) = Su F n
  | 0 => rfl
  | k + 1 => by rw [← Nat.add_assoc, Su, Su_more F h k, h _ (by omega)]; grind
end Mt
namespace Mt
def x1 (l : Rat) : List Rat := trim [-l, 1]
def nx2 (l d : Rat) (f g : List Rat) : List Rat := psub (pmul (x1 l) f) (pscale g d)
def rpf (L D : Nat → Rat) : Nat → List Rat
  | 0 => [1]
  | 1 => nx2 (L 0) 0 [1] []
  | n + 2 => nx2 (L (n + 1)) (D n) (rpf L D (n + 1)) (rpf L D n)
def rp (L D : List Rat) (n : Nat) : List Rat := rpf (cf L) (cf D) n
theorem mc_x1 (l : Rat) (f : List Rat) (k : Nat) : mc (x1 l) f k = sh f 1 k - l * cf f k := by
  rw [x1, mc_ext_left (f' := [-l, 1]) (fun n => cf_trim _ n)]
  rcases k with _ | k
  · simp only [mc, sh]; grind
  · rcases k with _ | k
    · simp only [mc, sh]; grind
    · simp only [mc, sh, Nat.add_sub_cancel]
      rw [if_pos (by omega)]; grind
theorem cf_nx2 (l d : Rat) (f g : List Rat) (k : Nat) : cf (nx2 l d f g) k = sh f 1 k - l * cf f k - d * cf g k := by
  rw [nx2, cf_psub, cf_pmul, cf_pscale, mc_x1]; grind
theorem NZ_nx2 (l d : Rat) (f g : List Rat) : NZ (nx2 l d f g) := NZ_psub _ _
theorem gp_nx2 {n : Nat} {l d : Rat} {f g : List Rat} (hf : Gp (n + 1) f) (hg : Gp n g) (hl : Wg l) (hd : Wg d) : Gp (n + 2) (nx2 l d f g) := by
  intro k
  rw [cf_nx2]
  have h1 : Lat (B0 ^ (n + 1) * B0) (A0 ^ (n + 1) * B0) (sh f 1 k) := (hf.sh 1 k).up
  have h2 : Lat (B0 * B0 ^ (n + 1)) (999999 * B0 * A0 ^ (n + 1)) (l * cf f k) := hl.mul (hf k)
  have h3 : Lat (B0 * B0 ^ n * B0) (999999 * B0 * A0 ^ n * B0) (d * cf g k) := (hd.mul (hg k)).up
  rw [show B0 * B0 ^ (n + 1) = B0 ^ (n + 1) * B0 from Nat.mul_comm _ _] at h2
  rw [show B0 * B0 ^ n = B0 ^ (n + 1) by rw [Nat.pow_succ, Nat.mul_comm]] at h3
  rw [Rat.sub_eq_add_neg, Rat.sub_eq_add_neg, show B0 ^ (n + 2) = B0 ^ (n + 1) * B0 from Nat.pow_succ ..]
  refine ((h1.add h2.neg).add h3.neg).mono ?_
  rw [show A0 ^ (n + 2) = A0 ^ (n + 1) * A0 from Nat.pow_succ .., show A0 ^ (n + 1) = A0 ^ n * A0 from Nat.pow_succ ..]
  generalize A0 ^ n = X
  simp only [A0, B0]
  omega
theorem gp_x1 {a : Rat} (h : Wg a) : Gp 1 (x1 a) := fun k => by
  rw [x1, cf_trim]
  rcases k with _ | _ | k
  · rw [cf_zero, Nat.pow_one, Nat.pow_one]; exact h.neg.mono (by decide)
  · exact gp_one1 0
  · rw [cf_succ, cf_succ, cf_nil]; exact Lat.zero
theorem rp_one_cf (L D : List Rat) (k : Nat) : cf (rp L D 1) k = cf (x1 (cf L 0)) k := by
  show cf (nx2 (cf L 0) 0 [1] []) k = _
  rw [cf_nx2, x1, cf_trim, cf_nil]
  rcases k with _ | _ | k
  · rw [sh, if_neg (by omega), cf_zero, cf_zero]; grind
  · rw [sh, if_pos (by omega), cf_succ, cf_succ, cf_nil, cf_zero]; grind
  · rw [sh, if_pos (by omega), cf_succ, cf_succ, cf_succ, cf_nil, cf_nil, show k + 1 + 1 - 1 = k + 1 by omega, cf_succ, cf_nil]; grind
theorem rp_one (L D : List Rat) : rp L D 1 = x1 (cf L 0) := (NZ_nx2 _ _ _ _).ext (NZ_trim _) (rp_one_cf L D)
theorem x1_is (a : Rat) : x1 a = [-a, 1] := trim_NZ (.inr (by show cf [-a, 1] 1 ≠ 0; rw [cf_succ, cf_zero]; decide))
theorem gp_rp {L D : List Rat} (hL : ∀ h, Wg (cf L h)) (hD : ∀ h, Wg (cf D h)) : ∀ n, Gp n (rp L D n)
  | 0 => gp_one
  | 1 => by rw [rp_one]; exact gp_x1 (hL 0)
  | n + 2 => gp_nx2 (gp_rp hL hD (n + 1)) (gp_rp hL hD n) (hL _) (hD _)
theorem NZ_rp (L D : List Rat) : ∀ n, NZ (rp L D n)
  | 0 => NZ_one
  | 1 => NZ_nx2 _ _ _ _
  | _ + 2 => NZ_nx2 _ _ _ _
theorem rp_top (L D : List Rat) : ∀ n, cf (rp L D n) n = 1 ∧ ∀ k, n < k → cf (rp L D n) k = 0
  | 0 => ⟨rfl, fun k h => by obtain ⟨m, rfl⟩ : ∃ m, k = m + 1 := ⟨k - 1, by omega⟩; show cf [1] (m + 1) = 0; rw [cf_succ, cf_nil]⟩
  | 1 => by
    rw [rp_one, x1_is]
    refine ⟨rfl, fun k h => ?_⟩
    obtain ⟨m, rfl⟩ : ∃ m, k = m + 2 := ⟨k - 2, by omega⟩
    rw [cf_succ, cf_succ, cf_nil]
  | n + 2 => by
    have a := rp_top L D (n + 1)
    have b := rp_top L D n
    have e : ∀ k, cf (rp L D (n + 2)) k = sh (rp L D (n + 1)) 1 k - cf L (n + 1) * cf (rp L D (n + 1)) k - cf D n * cf (rp L D n) k := fun k => cf_nx2 _ _ _ _ k
    constructor
    · rw [e, sh, if_pos (by omega), show n + 2 - 1 = n + 1 by omega, a.1, a.2 _ (by omega), b.2 _ (by omega)]; grind
    · intro k h
      rw [e, sh, if_pos (by omega), a.2 _ (by omega), a.2 _ (by omega), b.2 _ (by omega)]; grind
theorem rp_len (L D : List Rat) (n : Nat) : (rp L D n).length = n + 1 := by
  have h := rp_top L D n
  have a : (rp L D n).length ≤ n + 1 := (NZ_rp L D n).le fun k hk => h.2 k (by omega)
  rcases Nat.lt_or_ge n (rp L D n).length with z | z
  · omega
  · have := h.1
    rw [cf_ge z] at this
    exact absurd this (by decide)
end Mt
namespace Mt
section
variable (L D : List Rat) (T : Nat)
abbrev mu (n : Nat) : Rat := sm (cf L) (cf D) T 0 n 0
def Lx (f : List Rat) (n : Nat) : Rat := Su (fun k => cf f k * mu L D T (k + n)) f.length
variable {L D T}
theorem Lx_ge {f : List Rat} {n N : Nat} (h : f.length ≤ N) : Lx L D T f n = Su (fun k => cf f k * mu L D T (k + n)) N := by
  obtain ⟨m, rfl⟩ : ∃ m, N = f.length + m := ⟨N - f.length, by omega⟩
  rw [Lx, Su_more]
  intro i hi
  rw [cf_ge hi, Rat.zero_mul]
theorem Su_sh (f : List Rat) (F : Nat → Rat) : ∀ N, Su (fun k => sh f 1 k * F k) (N + 1) = Su (fun k => cf f k * F (k + 1)) N
  | 0 => by rw [Su, Su, Su, sh, if_neg (by omega)]; grind
  | N + 1 => by rw [Su, Su_sh f F N, Su, sh, if_pos (by omega), Nat.add_sub_cancel]
theorem Lx_rec {f g h : List Rat} {l d : Rat} (e : ∀ k, cf h k = sh f 1 k - l * cf f k - d * cf g k) (n : Nat) : Lx L D T h n = Lx L D T f (n + 1) - l * Lx L D T f n - d * Lx L D T g n := by
  obtain ⟨N, h1, h2, h3⟩ : ∃ N, f.length ≤ N ∧ g.length ≤ N ∧ h.length ≤ N := ⟨f.length + g.length + h.length, by omega, by omega, by omega⟩
  rw [Lx_ge (f := h) (N := N + 1) (by omega), Lx_ge (f := f) (n := n + 1) h1, Lx_ge (f := f) (n := n) (N := N + 1) (by omega), Lx_ge (f := g) (N := N + 1) (by omega)]
  have e1 : Su (fun k => cf h k * mu L D T (k + n)) (N + 1) = Su (fun k => sh f 1 k * mu L D T (k + n)) (N + 1) + Su (fun k => (cf f k * mu L D T (k + n)) * -l) (N + 1) + Su (fun k => (cf g k * mu L D T (k + n)) * -d) (N + 1) := by
    rw [← Su_add, ← Su_add]
    refine Su_congr fun k _ => ?_
    rw [e]; grind
  rw [e1, Su_mul, Su_mul, Su_sh f (fun k => mu L D T (k + n)) N]
  have e2 : Su (fun k => cf f k * mu L D T (k + 1 + n)) N = Su (fun k => cf f k * mu L D T (k + (n + 1))) N := Su_congr fun k _ => by rw [show k + 1 + n = k + (n + 1) by omega]
  rw [e2]
  grind
def smz (L D : List Rat) (T i n j : Nat) : Rat := if j < T then sm (cf L) (cf D) T i n j else 0
theorem smz_last (i n j : Nat) (hj : j + 1 < T) : smz L D T i (n + 1) (j + 1) = smz L D T i n (j + 1) * cf L (j + 1) + smz L D T i n j + smz L D T i n (j + 2) * cf D (j + 1) := by
  unfold smz
  rw [if_pos hj, if_pos hj, if_pos (show j < T by omega), sm_succ hj]
  unfold wk
  rw [if_pos (by omega), show j + 1 - 1 = j by omega, show j + 1 + 1 = j + 2 by omega]
  split <;> grind
theorem smz_first (i n : Nat) (h : 0 < T) : smz L D T i (n + 1) 0 = smz L D T i n 0 * cf L 0 + smz L D T i n 1 * cf D 0 := by
  unfold smz
  rw [if_pos h, if_pos h, sm_succ h]
  unfold wk
  rw [if_neg (by omega), show (0 : Nat) + 1 = 1 by omega]
  split <;> grind
theorem Lx_row {P : Nat → List Rat} {i : Nat} (hT : 0 < T) (h0 : ∀ n, Lx L D T (P 0) n = smz L D T i n 0) (h1 : ∀ k, cf (P 1) k = sh (P 0) 1 k - cf L 0 * cf (P 0) k) (h2 : ∀ j k, cf (P (j + 2)) k = sh (P (j + 1)) 1 k - cf L (j + 1) * cf (P (j + 1)) k - cf D j * cf (P j) k) : ∀ j, j ≤ T → ∀ n, Lx L D T (P j) n = smz L D T i n j * pr (cf D) 0 j
  | 0, _, n => by rw [h0, pr]; grind
  | 1, hj, n => by
    rw [Lx_rec (f := P 0) (g := P 0) (l := cf L 0) (d := 0) (fun k => by rw [h1]; grind) n, h0, h0, smz_first i n hT, pr, pr, Nat.zero_add]
    grind
  | j + 2, hj, n => by
    have a := Lx_row hT h0 h1 h2 (j + 1) (by omega)
    have b := Lx_row hT h0 h1 h2 j (by omega)
    rw [Lx_rec (f := P (j + 1)) (g := P j) (h2 j) n, a, a, b, smz_last i n j (by omega)]
    have p1 : pr (cf D) 0 (j + 1) = pr (cf D) 0 j * cf D j := by rw [pr, Nat.zero_add]
    have p2 : pr (cf D) 0 (j + 2) = pr (cf D) 0 (j + 1) * cf D (j + 1) := by rw [pr, Nat.zero_add]
    rw [p2, p1]
    grind
theorem rp_one_rec (k : Nat) : cf (rp L D 1) k = sh (rp L D 0) 1 k - cf L 0 * cf (rp L D 0) k := by
  show cf (nx2 (cf L 0) 0 [1] []) k = _
  rw [cf_nx2, cf_nil]
  show _ = sh [1] 1 k - cf L 0 * cf [1] k
  grind
theorem rp_rec (j k : Nat) : cf (rp L D (j + 2)) k = sh (rp L D (j + 1)) 1 k - cf L (j + 1) * cf (rp L D (j + 1)) k - cf D j * cf (rp L D j) k := cf_nx2 _ _ _ _ k
theorem Lx_rp (hT : 0 < T) (j n : Nat) (hj : j ≤ T) : Lx L D T (rp L D j) n = smz L D T 0 n j * pr (cf D) 0 j := by
  refine Lx_row (P := rp L D) (i := 0) hT (fun n => ?_) rp_one_rec rp_rec j hj n
  show Su (fun k => cf [1] k * mu L D T (k + n)) 1 = _
  rw [Su, Su, cf_zero, Nat.zero_add]
  unfold smz
  rw [if_pos hT]
  grind
end
end Mt
namespace Mt
end Mt
namespace L2
open PySem PySem.Spec PyProof.Rows
section
variable {X : Cx} {k : Nat} {sp : Sp} {ps : List Str} {x : Str} {p pos : Pos}
end
end L2
namespace L2
open PySem PySem.Spec PyProof.Rows Builtin
section
variable {X : Cx}
end
end L2
namespace Mt
theorem gd_up {n m : Nat} {q : Rat} (h : Gd n q) (hm : n ≤ m) : Gd m q := by
  obtain ⟨c, rfl⟩ : ∃ c, m = n + c := ⟨m - n, by omega⟩
  have a : Lat (B0 ^ n * B0 ^ c) (W0 ^ n * B0 ^ n * B0 ^ c) q := h.up
  show Lat (B0 ^ (n + c)) (W0 ^ (n + c) * B0 ^ (n + c)) q
  rw [Nat.pow_add B0, Nat.pow_add W0]
  refine a.mono ?_
  rw [Nat.mul_assoc]
  exact Nat.mul_le_mul_right _ (Nat.le_mul_of_pos_right _ (Nat.pow_pos (by decide)))
theorem lat_dotG {A B C E : Nat} {ms f : List Rat} (hf : ∀ n, Lat A B (cf f n)) (hm : ∀ n, Lat C E (cf ms n)) : ∀ i, Lat (A * C) (i * (B * E)) (Su (fun n => cf f n * cf ms n) i)
  | 0 => Lat.zero
  | i + 1 => by
    rw [Su, Nat.add_mul, Nat.one_mul]
    exact (lat_dotG hf hm i).add ((hf i).mul (hm i))
end Mt
namespace L2
theorem Ln.dot {b c : Nat} {f ms : List Rat} (h : Mt.Ln b b f) (k : Mt.Ln c c ms) {i : Nat} (hi : i ≤ 64) : Sz (b + c + 8) (Mt.Su (fun n => Mt.cf f n * Mt.cf ms n) i) := by
  obtain ⟨D, N, h1, h2, h3, h4⟩ := h.ex
  obtain ⟨E, M, k1, k2, k3, k4⟩ := k.ex
  have l := Mt.lat_dotG h4 k4 i
  have e := l.dvd (by have := Nat.mul_pos h1 k1; omega)
  have d1 := Nat.le_of_dvd (Nat.mul_pos h1 k1) e.1
  have d2 : D * E ≤ 2 ^ (b + c) := by rw [Nat.pow_add]; exact Nat.mul_le_mul h2 k2
  have n2 : i * (N * M) ≤ 2 ^ (b + c + 6) := by
    rw [Nat.pow_add, Nat.pow_add, Nat.mul_comm i]
    exact Nat.mul_le_mul (Nat.mul_le_mul h3 k3) hi
  have p1 : 2 ^ (b + c) < 2 ^ (b + c + 8) := Nat.pow_lt_pow_right (by decide) (by omega)
  have p2 : 2 ^ (b + c + 6) < 2 ^ (b + c + 8) := Nat.pow_lt_pow_right (by decide) (by omega)
  exact ⟨show (_ : Nat) < _ by omega, show (_ : Nat) < _ by show ((_ : Nat) : Int).natAbs < _; omega⟩
end L2
namespace L2
open PySem PySem.Spec PyProof.Rows
section
variable {X : Cx} {tg : Expr}
def tForVL (K : PySem.W.Frag) (te : TE) (g : TG) (tb : TS) : TS := fun D σ H => te σ H fun v H1 => ∃ a xs, v = .ref a ∧ SqL K H1 a xs ∧ FL xs.reverse (fun H => SqL K H a xs) g tb D σ H1
end
section
variable {X : Cx} {es : List Expr} {y1 : Nat} {tp : Pos}
end
def tForZL (K : PySem.W.Frag) (te te2 : TE) (g : TG) (tb : TS) : TS := fun D σ H => te σ H fun v H1 => te2 σ H1 fun v2 H2 => ∃ l, v = .ref l ∧ ∃ m, v2 = .ref m ∧ ∃ xs ys, SqL K H2 l xs ∧ SqL K H2 m ys ∧ xs.length ≤ ys.length ∧ FZ xs ys (fun H => SqL K H l xs ∧ SqL K H m ys) g tb D σ H2
section
variable {X : Cx} {es : List Expr} {y1 : Nat} {tp : Pos} {a b : Expr} {te te2 : TE} {g : TG} {tb : TS} {body : List Stmt} {p pos pos' : Pos}
end
end L2
namespace L2
open PySem PySem.Spec PyProof.Rows
section
variable {X : Cx}
end
end L2
namespace Mt
section
variable {L D : List Rat} {T : Nat}
theorem smz_up {h : Nat} (hh : h < T) : smz L D T 0 h h = 1 := by
  rw [smz, if_pos hh]
  have := straight (L := cf L) (D := cf D) (top := T) 0 h (by omega)
  rw [Nat.zero_add] at this
  exact this
theorem cf_drop (f : List Rat) (h k : Nat) : cf (f.drop h) k = cf f (k + h) := by
  unfold cf
  rw [List.getD_eq_getElem?_getD, List.getElem?_drop, List.getD_eq_getElem?_getD, Nat.add_comm]
theorem dot_drop {ms : List Rat} (f : List Rat) (h : Nat) (hm : ∀ k, k < f.length + h → cf ms k = mu L D T k) : dot (ms.drop h) f = Lx L D T f h := by
  rw [dot, Lx]
  exact Su_congr fun k hk => by rw [cf_drop, hm (k + h) (by omega)]
end
end Mt
namespace L2
open PySem PySem.Spec PyProof.Rows
section
variable {X : Cx} {pins : List (Addr × Obj)} {σ : St} {H : Hp} {s : Shared} {a : Addr} {o : Obj} {kvs : List (Key × V)}
end
section
variable {X : Cx} {tg : Expr}
def FD (a : Addr) (o : Obj) (kvs : List (Key × V)) (g : TG) (tb : TS) (D : Ends) (σ : St) (H : Hp) : Prop := ∃ Pv : Nat → St → Hp → Prop, Pv 0 σ (upd H a (.frz o (.dK kvs))) ∧ (∀ i σ H, Pv i σ H → H a = some (.frz o (.dK kvs))) ∧
  (∀ i k v σ H bk, kvs[i]? = some (k, v) → (∀ σ H, H a = some (.frz o (.dK kvs)) → D.nx σ (upd H a (.dK kvs)) → bk σ H) → Pv i σ H → g (kV k) σ H fun σ2 H2 => tb { D with nx := Pv (i + 1), ct := Pv (i + 1), bk := bk } σ2 H2) ∧
  ∀ σ H, Pv kvs.length σ H → D.nx σ (upd H a (.dK kvs))
def tForD (te : TE) (g : TG) (tb : TS) : TS := fun D σ H => te σ H fun v H1 => ∃ a kvs, v = .ref a ∧ H1 a = some (.dK kvs) ∧ ∀ o, FD a o kvs g tb D σ H1
end
end L2
namespace L2
open PySem PySem.Spec PyProof.Rows
section
variable {prog : Program} {w : World} {A : Around} {R : Result → Shared → Prop} {s : Shared}
theorem comp_loopI {elt target iter cnd : Expr} {scope : Scope} {pos : Pos} {it acc : Value} {env : Env} (J : Nat → Shared → Prop)
    (turn : ∀ n s, J n s → wpAny (model prog w) A (pyNext it) (fun r s1 => match r with
      | none => R (.ok .next) s1
      | some v => wpAny (model prog w) A (letOwnedTupleGo target it v) (fun _ s2 => wpAny (model prog w) A (assign target env v) (fun _ s3 => wpAny (model prog w) A (isTrue cnd env (eval cnd env)) (fun b s3b => match b with
          | false => ∃ m, m < n ∧ J m s3b
          | true => wpAny (model prog w) A (eval elt env) (fun x s4 =>
            wpAny (model prog w) A (call (.builtin "list.append") [acc, x]) (fun _ s5 => ∃ m, m < n ∧ J m s5) (fun _ _ => False) s4) (fun _ _ => False) s3b) (fun _ _ => False) s3) (fun _ _ => False) s2) (fun _ _ => False) s1) (fun _ _ => False) s)
    (n : Nat) (h : J n s) : codeAny (model prog w) A (.compLoop (.ListComp elt [⟨target, iter, [cnd], 0⟩] scope pos) 0 it acc env) R s := by
  refine codeAny_loop rfl J (fun n s hJ => ?_) n h
  show wpAny _ A ((compTurn (.ListComp elt [⟨target, iter, [cnd], 0⟩] scope pos) 0 it acc env).onRaise (fun x => do noteFrame x env; theTreesLotGoes x)) _ _ s
  refine wpAny_noted ?_
  rw [compTurn_list]
  have no : ∀ {P : Value → Shared → Prop} (a : Value) (b : Shared), (fun _ _ => False : Value → Shared → Prop) a b → P a b := fun _ _ z => False.elim z
  refine wpAny_bind (wpAny_standAt (wpAny_bind (wpAny_mono (turn n s hJ) (fun r s1 h1 => ?_) no)))
  cases r with
  | none => exact wpAny_pure h1
  | some v =>
    refine wpAny_bind (wpAny_mono h1 (fun _ s2 h2 => wpAny_bind (wpAny_mono h2 (fun _ s3 h3 => ?_) no)) no)
    simp only [List.forIn_cons, List.forIn_nil, if_true, bind_assoc, pure_bind]
    refine wpAny_bind (wpAny_mono h3 (fun b s4 h4 => ?_) no)
    cases b with
    | false => exact wpAny_pure ⟨rfl, h4⟩
    | true =>
      exact wpAny_bind (wpAny_mono h4 (fun x s4 h4 => wpAny_bind (wpAny_mono h4 (fun _ s5 h5 => wpAny_pure ⟨rfl, h5⟩) no)) no)
end
def tCompI (js : List (Option Nat)) (wi : TI) (g : TG) (tc : TT) (te : TE) : TE := fun σ H Q => wi σ H fun J H1 => ∀ D, H1 D = none → ∃ W : Nat → Nat → List V → St → Hp → Prop, (∃ m, W 0 m [] (cσ js σ) (upd H1 D (.lst []))) ∧
  ∀ i m ys σc H, W i m ys σc H → (H D = some (.lst ys) ∧ J.stop i H ∧ Q (.ref D) H) ∨ (J.go i H ∧ ∀ x H', J.yld i H x H' → g x σc H' fun σ2 H2 => tc σ2 H2 fun b H2b => if b = true then te σ2 H2b fun y H3 => H3 D = some (.lst ys) ∧ ys.length < sizeLine ∧ ∃ m', m' < m ∧ W (i + 1) m' (ys ++ [y]) σ2 (upd H3 D (.lst (ys ++ [y]))) else ∃ m', m' < m ∧ W (i + 1) m' ys σ2 H2b)
theorem PCo.psI {X : Cx} {elt iter tg cnd : Expr} {scope : Scope} {cpos pos pos' : Pos} {t : TE} {i : Nat} {x : Str} (h : PCo X (.ListComp elt [⟨tg, iter, [cnd], 0⟩] scope cpos) scope iter t) (hN : X.N.Nodup) (hi : X.N[i]? = some x) (hx : Loc X.env.scope x)
    (hsw : swapsWith (.ListComp elt [⟨tg, iter, [cnd], 0⟩] scope cpos) (some (.Name x pos')) pos.line X.env = pure true := by rfl)
    (hf : X.fn x = true ∨ X.env.scope.names.lookup x = some .local := by first | exact .inl rfl | exact .inr rfl | assumption) : PS X (.Assign [.Name x pos'] (.ListComp elt [⟨tg, iter, [cnd], 0⟩] scope cpos) pos) (tAsg t (gName i)) := by
  intro pins s σ H D0 I q
  rw [exec_Assign_Name_used _ _ _ _ hsw]
  refine wpAny_bind (wpAny_standAt (wpAny_bind ?_))
  show wpAny _ X.A (do let _ ← comprehension (.ListComp elt [⟨tg, iter, [cnd], 0⟩] scope cpos) scope X.env _ (newList []) false (eval iter X.env) (some (assign (.Name x pos') X.env))) _ _ s
  refine wpAny_bind (wpAny_mono (h _ (some (assign (.Name x pos') X.env)) (fun _ s' => SP X pins D0 .next s') pins s σ H _ I q ?_) (fun _ s' hq => wpAny_pure (wpAny_pure hq)) fun _ _ e => e)
  intro D C H5 s6 mC I7 hn fp qn
  refine wpAny_assign_Name (store_ok2 (v := .ref D) I7 hN hi hx rfl (fun s8 I8 sb8 => ?_) hf)
  obtain ⟨a, sb, ha⟩ := sb8
  have hne : C ≠ a := by
    rcases ha with rfl | ha
    · exact fp.2.1
    · exact fun z => fp.2.2.2.2.1 _ _ ha z.symm
  refine ⟨mC, hn.sameBut sb hne, fun h9 sb9 => ⟨_, H5, ?_, qn⟩⟩
  exact I8.turned (t' := s8.toks) (fun b o hb z => (sb9.2 b hb).trans z) fp.1 fp.2.1 fp.2.2.2.1 fp.2.2.2.2.1 fp.2.2.2.2.2
theorem pe_compI {X : Cx} {elt iter tg cnd : Expr} {scope : Scope} {cl : List (Str × Addr)} {Nc : List Str} {js : List (Option Nat)} {wi : TI} {g : TG} {tc : TT} {te : TE} {pos : Pos} (hc : X.calm = true) (hi : PI X tg iter wi)
    (hg : ∀ C s₀ H₀ ex pn, PG (X.cp Nc scope cl C s₀ H₀ ex pn) tg g) (ht : ∀ C s₀ H₀ ex pn, PT (X.cp Nc scope cl C s₀ H₀ ex pn) cnd tc) (he : ∀ C s₀ H₀ ex pn, PE (X.cp Nc scope cl C s₀ H₀ ex pn) elt te)
    (hlen : js.length = Nc.length) (hcl1 : ∀ y c, cl.lookup y = some c → X.env.cells.lookup y = some c) (hcl2 : ∀ y, ((relabel scope X.env).names.lookup y = some .cell ∨ (relabel scope X.env).names.lookup y = some .free) → ∃ c, cl.lookup y = some c)
    (hjs : ∀ (i : Nat) (y : Str) (j : Nat), Nc[i]? = some y → js[i]? = some (some j) → X.N[j]? = some y ∧ Vis X.env.scope y ∧ X.env.kindOf y ≠ some .local ∧ ((relabel scope X.env).names.lookup y = some .cell ∨ (relabel scope X.env).names.lookup y = some .free) ∧ ∀ c, X.env.cells.lookup y = some c → cl.lookup y = some c)
    (hclos : closureFor scope X.env = pure cl) (hcell : ∀ y ∈ scope.names, y.2 ≠ .cell) (hkind : scope.kind = .function) (hnames : ∀ y ∈ scope.names, y.2 = .local → scope.names.lookup y.1 = some .local)
    (hs : ∀ x, foldedSetIterable iter X.env x = pure x := by intro _; rfl) : PCo X (.ListComp elt [⟨tg, iter, [cnd], 0⟩] scope pos) scope iter (tCompI js wi g tc te) := by
  intro pos0 use QQ pins s σ H Q I h fin
  refine wpAny_comprehension_free (use := use) rfl hs hclos hkind hnames (thn (hi pins s σ H _ I h) fun v s1 h1 => thn h1 fun itv s2 h2 => ?_)
  obtain ⟨it, fp, tn, J, H2, rfl, I2, T, st2, f2, R⟩ := h2
  refine wpAny_newObj_type (wpAny_newFunctionEnv hcell (by intro y hy; simp at hy) (fun h1 hns hsb => ?_) hkind)
  dsimp only at hns hsb ⊢
  have hf : H2 s2.heap.objs.size = none := I2.hok.fresh (Nat.le_refl _)
  obtain ⟨W, ⟨m0, w0⟩, turn⟩ := R s2.heap.objs.size hf
  -- D: the list; C: the block's names
  generalize eD : s2.heap.objs.size = D at *
  have I3 : Inv X pins σ (upd H2 D (.lst [])) { s2 with heap := s2.heap.push { cls := .type "list", dict := none, data := .seq ([] : List Value).toArray } } :=
    I2.laid (t' := s2.toks) (fun b u e => Heap.get?_push_of_some _ e) (by rw [eD]; exact Nat.le_refl _) ⟨Nat.zero_le _, [], 0, .nil, by rw [← eD]; exact Heap.get?_push_size _ rfl⟩
  generalize e3 : ({ s2 with heap := s2.heap.push { cls := .type "list", dict := none, data := .seq ([] : List Value).toArray } } : Shared) = s3 at I3
  have hp3 : s2.heap.push { cls := .type "list", dict := none, data := .seq ([] : List Value).toArray } = s3.heap := by rw [← e3]
  rw [hp3] at hns hsb ⊢
  generalize eC : s3.heap.objs.size = C at *
  have old : ∀ b o, s3.heap.get? b = some o → h1.get? b = some o := fun b o z => hsb.extBut b o (by rw [← eC]; exact Nat.ne_of_lt (Heap.lt_size z)) (Heap.get?_push_of_some _ z)
  have fpo : ∀ b ∈ fp, b < D := fun b hb => by
    obtain ⟨o, z, _⟩ := T.obj _ _ st2 b hb
    rw [← eD]; exact Heap.lt_size z
  have eCD : C = D + 1 := by rw [← eC, ← hp3, Heap.size_push, eD]
  have f3 : ∀ b ∈ fp, FpOk X pins (upd H2 D (.lst [])) b := fun b hb => ⟨by rw [upd_ne (Nat.ne_of_lt (fpo b hb))]; exact (f2 b hb).1, (f2 b hb).2⟩
  have okC : (X.cp Nc scope cl C s3 (upd H2 D (.lst [])) fp (X.pn ++ pins)).Ok := by
    have ok := I3.ok
    refine ⟨ok.mod, hkind, ok.glob, ok.blt, by rw [eC]; exact Nat.le_refl _, fun x y c a b => ok.inj x y c (hcl1 x c a) (hcl1 y c b), fun x hx => hcl2 x hx, fun x c z => absurd z Bool.false_ne_true, ok.hd, ok.frames, .inl rfl, fun b hb => ?_, fun b o z => I3.bs b o z, Nat.le_trans ok.bsz I3.sz, fun b o z hb => ?_, fun b hb hm => ?_, I3.stack, I3.stkFree⟩
    · exact ⟨by rw [eCD]; exact Nat.ne_of_lt (Nat.lt_succ_of_lt (fpo b hb)), fun x c z => (f3 b hb).2.2.2.2.1 x c (hcl1 x c z)⟩
    · rcases (f3 b hb).2.2.2.1 with y | y
      · exact ok.noex b o z y
      · exact absurd (Nat.lt_of_lt_of_le (Heap.lt_size z) (Nat.le_trans ok.bsz y)) (Nat.lt_irrefl _)
    · rcases List.mem_cons.mp (I3.stkSub b hm) with y | y
      · exact (f3 b hb).2.1 y
      · exact (f3 b hb).2.2.1 y
  have I4 : Inv (X.cp Nc scope cl C s3 (upd H2 D (.lst [])) fp (X.pn ++ pins)) [] (cσ js σ) (upd H2 D (.lst [])) { s2 with heap := h1, toks := s2.toks + ([] : List (Str × Value)).length } := by
    have os3 : s2.os = s3.os := by rw [← e3]
    have fC : upd H2 D (.lst []) C = none := I3.hok.fresh (by rw [eC]; exact Nat.le_refl _)
    refine ⟨okC, os3, I2.bare, Un.kept old, ⟨_, hns, fun i y v e1 e2 e3' => ?_⟩, fun y c z => ?_, fC, fun y c z => I3.freeC y c (hcl1 y c z), fun p hp => ?_, I3.hok.kept old, by rw [cσ, List.length_map]; exact hlen⟩
    · unfold cσ at e2
      rw [List.getElem?_map] at e2
      cases ej : js[i]? with
      | none => rw [ej] at e2; cases e2
      | some oj =>
        rw [ej] at e2
        cases oj with
        | none => cases e2
        | some j =>
          obtain ⟨a1, a2, a3, a4, a5⟩ := hjs i y j e1 ej
          have e2' : (σ[j]?).join = some v := Option.some.inj e2
          have e4 : σ[j]? = some (some v) := by
            cases q : σ[j]? with
            | none => rw [q] at e2'; cases e2'
            | some o => rw [q] at e2'; exact congrArg some e2'
          obtain ⟨m, hn, hl⟩ := I3.loc
          obtain ⟨u, r, l⟩ := hl j y v a1 e4 a2
          refine ⟨u, r, .inr ⟨a4, ?_⟩⟩
          rcases l with ⟨k, _⟩ | ⟨k, c, z, ⟨o, ho, hd⟩⟩
          · exact absurd k a3
          · exact ⟨c, a5 c z, o, old _ _ ho, hd⟩
    · obtain ⟨w', o, ho, hd⟩ := I3.cell y c (hcl1 y c z)
      exact ⟨w', o, old _ _ ho, hd⟩
    · have hp' : p ∈ X.pn ++ pins := by
        have z : p ∈ (X.pn ++ pins) ++ [] := hp
        rw [List.append_nil] at z; exact z
      obtain ⟨z, n, ne, nf, d⟩ := I3.pin p hp'
      refine ⟨old _ _ z, n, by rw [← eC]; exact Nat.ne_of_lt (Heap.lt_size z), fun hm => ?_, d⟩
      rcases List.mem_cons.mp (I3.stkSub p.1 hm) with y | y
      · exact ne y
      · exact nf y
  have st4 : tn 0 h1 := T.keep _ _ _ st2 fun b hb o z => old b o (by rw [← hp3]; exact Heap.get?_push_of_some _ z)
  have stat : ∀ {H' : Hp}, (∀ b ∈ fp, H' b = none) → ∀ b ∈ fp, FpOk (X.cp Nc scope cl C s3 (upd H2 D (.lst [])) fp (X.pn ++ pins)) [] H' b := fun hn b hb =>
    ⟨hn b hb, (okC.exf b hb).1, okC.exfs b hb, .inl hb, (okC.exf b hb).2 |> fun q x c z => q x c z, fun p hp => (f3 b hb).2.2.2.2.2 p (by
      have z : p ∈ (X.pn ++ pins) ++ [] := hp
      rw [List.append_nil] at z; exact z)⟩
  have loop : codeAny (model X.prog X.w) X.A (.compLoop (.ListComp elt [⟨tg, iter, [cnd], 0⟩] scope pos) 0 (.ref it) (.ref D) (compEnvC scope cl C X.env)) (compPost (model X.prog X.w) X.A X.xe use QQ (.ref D) C) { s2 with heap := h1, toks := s2.toks + ([] : List (Str × Value)).length } := by
    refine comp_loopI (fun n s' => ∃ i ys σc H', Inv (X.cp Nc scope cl C s3 (upd H2 D (.lst [])) fp (X.pn ++ pins)) [] σc H' s' ∧ tn i s'.heap ∧ (∀ b ∈ fp, H' b = none) ∧ W i n ys σc H') ?_ m0 ⟨0, [], _, _, I4, st4, fun b hb => (f3 b hb).1, w0⟩
    rintro n s5 ⟨i, ys, σ5, H5, I5, st5, fr5, w5⟩
    rcases turn i n ys σ5 H5 w5 with ⟨hD, stop, qn⟩ | ⟨go, step⟩
    · refine thn (T.done (X.cp Nc scope cl C s3 (upd H2 D (.lst [])) fp (X.pn ++ pins)) rfl rfl rfl hc i [] s5 σ5 H5 _ I5 (stat fr5) st5 stop) fun r s6 ⟨hr, I6⟩ => ?_
      subst hr
      obtain ⟨mC, hnC, _⟩ := id I6.loc
      have I7 : Inv X pins σ H5 s6 := I3.call' (ch := fp) I6.os I6.base I6.hok I6.bare fun b hb => ⟨(f3 b hb).2.2.2.1, (f3 b hb).2.1, (f3 b hb).2.2.2.2.1, (f3 b hb).2.2.2.2.2⟩
      have nC : s3.heap.objs.size ≤ C := by rw [eC]; exact Nat.le_refl _
      exact fin D C H5 s6 mC I7 hnC (I3.fpOk nC I6.free) qn
    · refine thn (T.item (X.cp Nc scope cl C s3 (upd H2 D (.lst [])) fp (X.pn ++ pins)) rfl rfl rfl hc i [] s5 σ5 H5 _ I5 (stat fr5) st5 go) fun r s6 ⟨u, hr, h6⟩ => ?_
      subst hr
      refine thn h6 fun _ s7 ⟨x, H7, I7, r7, y7, st7, fr7⟩ => ?_
      have I7' := I7.pinned (stat fr7) (T.obj _ _ st7)
      refine thn (hg C s3 _ fp _ _ s7 σ5 H7 x u _ I7' r7 (step x H7 y7)) fun _ s8 ⟨σ8, H8, I8, q8⟩ => ?_
      refine thn (ht C s3 _ fp _ _ s8 σ8 H8 _ I8 q8) fun b s8b ⟨H8b, I8b, q8b⟩ => ?_
      cases b with
      | false =>
        obtain ⟨m9, lt9, w9⟩ := (show ∃ m', m' < n ∧ W (i + 1) m' ys σ8 H8b from by simpa using q8b)
        refine ⟨m9, lt9, i + 1, ys, σ8, _, I8b.unpinned, T.keep _ _ _ st7 fun b hb o z => (I8b.pin (b, o) (List.mem_append_right _ (List.mem_append_right _ (mem_pinsAt hb z)))).1, fun b hb => ?_, w9⟩
        obtain ⟨o, z, d⟩ := T.obj _ _ st7 b hb
        exact (I8b.pin (b, o) (List.mem_append_right _ (List.mem_append_right _ (mem_pinsAt hb z)))).2.1
      | true =>
        have q8c : te σ8 H8b (fun y H3 => H3 D = some (.lst ys) ∧ ys.length < sizeLine ∧ ∃ m', m' < n ∧ W (i + 1) m' (ys ++ [y]) σ8 (upd H3 D (.lst (ys ++ [y])))) := by
          have := q8b
          simp only [if_true] at this
          exact this
        refine thn (he C s3 _ fp _ _ s8b σ8 H8b _ I8b q8c) fun v9 s9 ⟨y9, H9, I9, r9, hD9, hz9, m9, lt9, w9⟩ => ?_
        refine thn (mt_append (X := X.cp Nc scope cl C s3 (upd H2 D (.lst [])) fp (X.pn ++ pins)) _ s9 σ8 H9 (.ref D) [y9] (.ref D) [v9] (fun _ H10 => H10 = upd H9 D (.lst (ys ++ [y9]))) I9 rfl (.cons r9 .nil) ⟨D, ys, y9, rfl, rfl, hD9, hz9, rfl⟩) fun v10 s10 ⟨_, H10, I10, _, e10⟩ => ?_
        subst e10
        refine ⟨m9, lt9, i + 1, ys ++ [y9], σ8, _, I10.unpinned, T.keep _ _ _ st7 fun b hb o z => (I10.pin (b, o) (List.mem_append_right _ (List.mem_append_right _ (mem_pinsAt hb z)))).1, fun b hb => ?_, w9⟩
        obtain ⟨o, z, d⟩ := T.obj _ _ st7 b hb
        exact (I10.pin (b, o) (List.mem_append_right _ (List.mem_append_right _ (mem_pinsAt hb z)))).2.1
  exact codeAny_compStart_list loop (T.self X.A 0 _ _ _ st4 loop)
def FrOk (X : Cx) (scope : Scope) : List (Str × Nat × Addr) → Prop
  | [] => True
  | p :: r => X.env.cells.lookup p.1 = some p.2.2 ∧ X.N[p.2.1]? = some p.1 ∧ X.env.kindOf p.1 = some .cell ∧ (relabel scope X.env).names.lookup p.1 = some .cell ∧ FrOk X scope r
theorem FrOk.mem {X : Cx} {scope : Scope} : ∀ {fr : List (Str × Nat × Addr)}, FrOk X scope fr → ∀ p ∈ fr, X.env.cells.lookup p.1 = some p.2.2 ∧ X.N[p.2.1]? = some p.1 ∧ X.env.kindOf p.1 = some .cell ∧ (relabel scope X.env).names.lookup p.1 = some .cell
  | _ :: _, h, p, hp => by
    rcases List.mem_cons.mp hp with rfl | hp
    · exact ⟨h.1, h.2.1, h.2.2.1, h.2.2.2.1⟩
    · exact FrOk.mem h.2.2.2.2 p hp
theorem look_fr {fr : List (Str × Nat × Addr)} {z : Str} {d : Addr} (h : List.lookup z (fr.map fun p => (p.1, p.2.2)) = some d) : ∃ p ∈ fr, p.1 = z ∧ p.2.2 = d := by
  have m := PySem.mem_of_lookup h
  obtain ⟨p, hp, e⟩ := List.mem_map.mp m
  cases e
  exact ⟨p, hp, rfl, rfl⟩
theorem look_self : ∀ {fr : List (Str × Nat × Addr)}, (fr.map (·.1)).Nodup → ∀ p ∈ fr, List.lookup p.1 (fr.map fun p => (p.1, p.2.2)) = some p.2.2
  | q :: r, nd, p, hp => by
    rw [List.map_cons] at nd
    obtain ⟨n1, n2⟩ := List.nodup_cons.mp nd
    rcases List.mem_cons.mp hp with rfl | hp
    · simp
    · have ne : p.1 ≠ q.1 := fun e => n1 (by rw [← e]; exact List.mem_map.mpr ⟨p, hp, rfl⟩)
      rw [List.map_cons, List.lookup_cons, show (p.1 == q.1) = false from beq_eq_false_iff_ne.mpr ne]
      exact look_self n2 p hp
theorem pe_compIN {X : Cx} {elt iter tg cnd : Expr} {scope : Scope} (Nl : List Str) (fr : List (Str × Nat × Addr)) {wi : TI} {g : TG} {tc : TT} {te : TE} {pos : Pos} (hc : X.calm = true) (hi : PI X tg iter wi)
    (hg : ∀ C s₀ H₀ ex pn, PG (X.cp (Nl ++ fr.map (·.1)) scope (fr.map fun p => (p.1, p.2.2)) C s₀ H₀ ex pn) tg g) (ht : ∀ C s₀ H₀ ex pn, PT (X.cp (Nl ++ fr.map (·.1)) scope (fr.map fun p => (p.1, p.2.2)) C s₀ H₀ ex pn) cnd tc)
    (he : ∀ C s₀ H₀ ex pn, PE (X.cp (Nl ++ fr.map (·.1)) scope (fr.map fun p => (p.1, p.2.2)) C s₀ H₀ ex pn) elt te)
    (hclos : closureFor scope X.env = pure (fr.map fun p => (p.1, p.2.2))) (hall : FrOk X scope fr)
    (nd : (fr.map (·.1)).Nodup) (h1 : ∀ p ∈ scope.names, p.2 = .free → p.1 ∈ fr.map (·.1)) (hcell : ∀ y ∈ scope.names, y.2 ≠ .cell := by decide +kernel) (hkind : scope.kind = .function := by rfl)
    (hnames : ∀ y ∈ scope.names, y.2 = .local → scope.names.lookup y.1 = some .local := by decide +kernel)
    (hs : ∀ x, foldedSetIterable iter X.env x = pure x := by intro _; rfl) : PCo X (.ListComp elt [⟨tg, iter, [cnd], 0⟩] scope pos) scope iter (tCompI ((Nl.map fun _ => none) ++ fr.map fun p => some p.2.1) wi g tc te) := by
  refine pe_compI (cl := fr.map fun p => (p.1, p.2.2)) (Nc := Nl ++ fr.map (·.1)) hc hi hg ht he (by simp) (fun z d h => ?_) (fun z h => ?_) (fun i z j' e1 e2 => ?_) hclos hcell hkind hnames hs
  · obtain ⟨p, hp, rfl, rfl⟩ := look_fr h
    exact (hall.mem p hp).1
  · have m := h.elim (fun q => rel_mem q (.inl rfl) hcell) fun q => rel_mem q (.inr rfl) hcell
    obtain ⟨p, hp, e⟩ := List.mem_map.mp (h1 _ m rfl)
    have e : p.1 = z := e
    subst e
    exact ⟨p.2.2, look_self nd p hp⟩
  · by_cases hlt : i < Nl.length
    · rw [List.getElem?_append_left (by simpa using hlt), List.getElem?_map] at e2
      cases q : Nl[i]? with
      | none => rw [q] at e2; cases e2
      | some z => rw [q] at e2; cases e2
    · rw [List.getElem?_append_right (by omega), List.getElem?_map] at e1
      rw [List.getElem?_append_right (by simpa using hlt), List.getElem?_map] at e2
      simp only [List.length_map] at e2
      cases q : fr[i - Nl.length]? with
      | none => rw [q] at e1; cases e1
      | some p =>
        rw [q] at e1 e2
        have hp : p ∈ fr := List.mem_of_getElem? q
        have e1 : p.1 = z := by simpa using e1
        have e2 : p.2.1 = j' := by simpa using e2
        subst e1 e2
        obtain ⟨a1, a2, a3, a4⟩ := hall.mem p hp
        exact ⟨a2, .inr (.inl a3), by rw [a3]; exact (fun q => nomatch q), .inl a4, fun d h => by rw [a1] at h; cases h; exact look_self nd p hp⟩
def COI (n : Nat) (src : Nat → Hp → V → Prop) (st : Hp → Prop) (js : List (Option Nat)) (g : TG) (tc : TT) (tl : TE) (σ : St) (H1 : Hp) (Q : VK) : Prop := ∀ D, H1 D = none → ∃ Pv : Nat → List V → St → Hp → Prop, Pv 0 [] (cσ js σ) (upd H1 D (.lst [])) ∧ (∀ i ys σc H, i ≤ n → Pv i ys σc H → st H) ∧
  (∀ i ys σc H x, i < n → Pv i ys σc H → src i H x → g x σc H fun σ2 H2 => tc σ2 H2 fun b H2b => if b = true then tl σ2 H2b fun y H3 => H3 D = some (.lst ys) ∧ ys.length < sizeLine ∧ Pv (i + 1) (ys ++ [y]) σ2 (upd H3 D (.lst (ys ++ [y]))) else Pv (i + 1) ys σ2 H2b) ∧ ∀ ys σc H, Pv n ys σc H → H D = some (.lst ys) ∧ Q (.ref D) H
theorem COI.run {n : Nat} {src : Nat → Hp → V → Prop} {st : Hp → Prop} {js : List (Option Nat)} {g : TG} {tc : TT} {tl : TE} {σ : St} {H1 : Hp} {Q : VK} {J : It} (h : COI n src st js g tc tl σ H1 Q) (hgo : ∀ i H, i < n → st H → J.go i H) (hst : ∀ H, st H → J.stop n H) (hy : ∀ i H x H', i < n → st H → J.yld i H x H' → H' = H ∧ src i H x) :
    ∀ D, H1 D = none → ∃ W : Nat → Nat → List V → St → Hp → Prop, (∃ m, W 0 m [] (cσ js σ) (upd H1 D (.lst []))) ∧
    ∀ i m ys σc H, W i m ys σc H → (H D = some (.lst ys) ∧ J.stop i H ∧ Q (.ref D) H) ∨ (J.go i H ∧ ∀ x H', J.yld i H x H' → tMoG g x σc H' fun σ2 H2 => tMoT tc σ2 H2 fun b H2b => if b = true then tMo tl σ2 H2b fun y H3 => H3 D = some (.lst ys) ∧ ys.length < sizeLine ∧ ∃ m', m' < m ∧ W (i + 1) m' (ys ++ [y]) σ2 (upd H3 D (.lst (ys ++ [y]))) else ∃ m', m' < m ∧ W (i + 1) m' ys σ2 H2b) := by
  intro D hD
  obtain ⟨Pv, p0, ps, pt, pd⟩ := h D hD
  refine ⟨fun i m ys σc H => m = n - i ∧ i ≤ n ∧ Pv i ys σc H, ⟨n, by simp, Nat.zero_le _, p0⟩, ?_⟩
  rintro i m ys σc H ⟨rfl, hi, p⟩
  have s0 := ps i ys σc H hi p
  by_cases hlt : i < n
  · refine .inr ⟨hgo i H hlt s0, fun x H' y => ?_⟩
    obtain ⟨rfl, hx⟩ := hy i H x H' hlt s0 y
    have z := pt i ys σc H' x hlt p hx
    refine ⟨_, z, fun σ2 H2 z2 => ⟨_, z2, fun b H2b z3 => ?_⟩⟩
    cases b with
    | true => simp only [if_true] at z3 ⊢; exact ⟨_, z3, fun y3 H3 ⟨a1, a2, a3⟩ => ⟨a1, a2, n - (i + 1), by omega, rfl, hlt, a3⟩⟩
    | false => simp only [Bool.false_eq_true, if_false] at z3 ⊢; exact ⟨n - (i + 1), by omega, rfl, hlt, z3⟩
  · have e : i = n := by omega
    subst e
    obtain ⟨a1, a2⟩ := pd ys σc H p
    exact .inl ⟨a1, hst H s0, a2⟩
section
variable {X : Cx} {tg a elt cnd : Expr} {te tl : TE} {tc : TT} {g : TG} {p pos pos' : Pos} {scope : Scope} {js : List (Option Nat)}
def tCoRI (js : List (Option Nat)) (te : TE) (g : TG) (tc : TT) (tl : TE) : TE := fun σ H Q => te σ H fun v H1 => ∃ j : Int, v = .int j ∧ -(2 ^ 62) ≤ j ∧ j < 2 ^ 62 ∧ COI j.toNat (fun i _ x => x = .int i) (fun _ => True) js g tc tl σ H1 Q
def tCoLI (K : PySem.W.Frag) (js : List (Option Nat)) (te : TE) (g : TG) (tc : TT) (tl : TE) : TE := fun σ H Q => te σ H fun v H1 => ∃ a xs, v = .ref a ∧ SqL K H1 a xs ∧ COI xs.length (fun i _ x => xs[i]? = some x) (fun H => SqL K H a xs) js g tc tl σ H1 Q
def tCoKI (R : Addr) (kvs : List (Key × V)) (js : List (Option Nat)) (te : TE) (g : TG) (tc : TT) (tl : TE) : TE := fun σ H Q => te σ H fun v H1 => v = .ref R ∧ COI kvs.length (fun i _ x => ∃ k v, kvs[i]? = some (k, v) ∧ x = kV k) (fun _ => True) js g tc tl σ H1 Q
theorem coRI (hm : X.mg "range" = none) (ha : PE X a te) (hp : ∀ (wi : TI), PI X tg (.Call (.Name "range" p) [a] [] pos') wi → PCo X (.ListComp elt [⟨tg, .Call (.Name "range" p) [a] [] pos', [cnd], 0⟩] scope pos) scope (.Call (.Name "range" p) [a] [] pos') (tCompI js wi (tMoG g) (tMoT tc) (tMo tl)))
    (hg : Gl X "range" := by rfl) (hs : starEach [a] X.env = [(false, eval a X.env)] := by rfl) : PCo X (.ListComp elt [⟨tg, .Call (.Name "range" p) [a] [] pos', [cnd], 0⟩] scope pos) scope (.Call (.Name "range" p) [a] [] pos') (tCoRI js te g tc tl) := by
  refine (hp _ (pi_rangeM hg hm ha hs)).of fun σ H Q h => ?_
  refine ⟨_, h, fun v H1 ⟨j, e, b1, b2, c⟩ => ⟨j, by rw [e], b1, b2, ?_⟩⟩
  refine COI.run (J := Itr 0 j.toNat) c (fun _ _ h _ => h) (fun _ _ => Nat.le_refl _) fun i H x H' _ _ y => ⟨y.1, ?_⟩
  rw [y.2, Int.zero_add]
end
end L2
namespace Mt
def sI (f : Nat → Int) : Nat → Int
  | 0 => 0
  | n + 1 => sI f n + f n
theorem sI_bd {f : Nat → Int} {N : Nat} (h : ∀ j, (f j).natAbs ≤ N) : ∀ n, (sI f n).natAbs ≤ n * N
  | 0 => by simp [sI]
  | n + 1 => by
    have a := sI_bd h n
    have b := h n
    rw [sI, Nat.add_mul, Nat.one_mul]
    omega
theorem Su_swap (F : Nat → Nat → Rat) (m : Nat) : ∀ n, Su (fun i => Su (fun j => F i j) m) n = Su (fun j => Su (fun i => F i j) n) m
  | 0 => by rw [Su]; exact (Su_zero m).symm
  | n + 1 => by
    rw [Su, Su_swap F m n, ← Su_add]
    exact Su_congr fun j _ => by rw [Su]
def lf (ms p : List Rat) (l : Nat) : Rat := Su (fun n => cf p n * cf ms (n + l)) p.length
theorem lf_dot (ms p : List Rat) (l : Nat) : dot (ms.drop l) p = lf ms p l := Su_congr fun n _ => by rw [cf_drop]
theorem lf_up (ms p : List Rat) (l : Nat) {N : Nat} (h : p.length ≤ N) : Su (fun n => cf p n * cf ms (n + l)) N = lf ms p l := by
  obtain ⟨k, rfl⟩ : ∃ k, N = p.length + k := ⟨N - p.length, by omega⟩
  exact Su_more _ (fun i hi => by rw [cf_ge hi, Rat.zero_mul]) k
theorem lf_nx2 (ms f g : List Rat) (a b : Rat) (l : Nat) : lf ms (nx2 a b f g) l = lf ms f (l + 1) - a * lf ms f l - b * lf ms g l := by
  obtain ⟨N, h1, h2, h3⟩ : ∃ N, (nx2 a b f g).length ≤ N + 1 ∧ f.length ≤ N ∧ g.length ≤ N := ⟨(nx2 a b f g).length + f.length + g.length, by omega, by omega, by omega⟩
  rw [← lf_up ms _ l h1, ← lf_up ms f (l + 1) h2, ← lf_up ms f l (show f.length ≤ N + 1 by omega), ← lf_up ms g l (show g.length ≤ N + 1 by omega)]
  have e : ∀ n, cf (nx2 a b f g) n * cf ms (n + l) = (sh f 1 n * cf ms (n + l) + cf f n * cf ms (n + l) * (-a)) + cf g n * cf ms (n + l) * (-b) := fun n => by rw [cf_nx2]; grind
  rw [Su_congr fun n _ => e n, Su_add, Su_add, Su_mul, Su_mul, Su_sh f (fun n => cf ms (n + l)) N]
  have e2 : Su (fun k => cf f k * cf ms (k + 1 + l)) N = Su (fun k => cf f k * cf ms (k + (l + 1))) N := Su_congr fun k _ => by rw [show k + 1 + l = k + (l + 1) by omega]
  rw [e2]
  grind
structure Mo (ms p : List Rat) (i : Nat) : Prop where
  len : p.length = i + 1
  top : cf p i = 1
  orth : ∀ l, l < i → lf ms p l = 0
theorem Mo.su {ms p : List Rat} {i : Nat} (h : Mo ms p i) (l : Nat) {d : Nat} (hd : i < d) : Su (fun n => cf p n * cf ms (n + l)) d = lf ms p l := lf_up ms p l (by rw [h.len]; omega)
theorem only {ms : List Rat} {p : Nat → List Rat} {i : Nat} (hp : ∀ j, j < i → Mo ms (p j) j) (nz : ∀ j, j < i → lf ms (p j) j ≠ 0) {q : Nat → Rat}
    (hq : ∀ l, l < i → Su (fun n => q n * cf ms (n + l)) i = 0) : ∀ t n, n < i → i ≤ n + t → q n = 0
  | 0, n, h1, h2 => absurd h1 (by omega)
  | t + 1, d, h1, h2 => by
    rcases Nat.lt_or_ge d (i - t) with z | z
    · have ab : ∀ n, n < i → d < n → q n = 0 := fun n h3 h4 => only hp nz hq t n h3 (by omega)
      have e1 : Su (fun l => Su (fun n => cf (p d) l * (q n * cf ms (n + l))) i) (d + 1) = 0 := by
        rw [Su_congr (g := fun _ => 0) fun l hl => ?_, Su_zero]
        rw [Su_congr (g := fun n => q n * cf ms (n + l) * cf (p d) l) fun n _ => Rat.mul_comm .., Su_mul, hq l (by omega), Rat.zero_mul]
      rw [← Su_swap] at e1
      have e2 : ∀ n, n < i → Su (fun l => cf (p d) l * (q n * cf ms (n + l))) (d + 1) = q n * lf ms (p d) n := fun n _ => by
        rw [← (hp d h1).su n (show d < d + 1 by omega), Rat.mul_comm (q n), ← Su_mul]
        exact Su_congr fun l _ => by rw [Nat.add_comm n l]; grind
      rw [Su_congr e2] at e1
      have e3 : ∀ n, n < i → q n * lf ms (p d) n = q n * lf ms (p d) n * (if d = n then 1 else 0) := fun n hn => by
        by_cases y : d = n
        · rw [if_pos y, Rat.mul_one]
        rw [if_neg y, Rat.mul_zero]
        rcases Nat.lt_or_ge n d with x | x
        · rw [(hp d h1).orth n x, Rat.mul_zero]
        · rw [ab n hn (by omega), Rat.zero_mul]
      rw [Su_congr e3, Su_one (fun n => q n * lf ms (p d) n) d i h1] at e1
      exact (Rat.mul_eq_zero.mp e1).resolve_right (nz d h1)
    · exact only hp nz hq t d h1 (by omega)
theorem Mo.uniq {ms : List Rat} {p : Nat → List Rat} {i : Nat} (hp : ∀ j, j < i → Mo ms (p j) j) (nz : ∀ j, j < i → lf ms (p j) j ≠ 0) {r : List Rat} (hr : Mo ms r i)
    {c : Nat → Rat} (hc : ∀ l, l < i → Su (fun n => c n * cf ms (n + l)) (i + 1) = 0) {n : Nat} (hn : n ≤ i) : cf r n * c i = c n := by
  have h := only hp nz (q := fun n => c n - cf r n * c i) (fun l hl => by
    have e1 := hc l hl
    have e2 := hr.orth l hl
    rw [← hr.su l (show i < i + 1 by omega)] at e2
    have e : Su (fun n => (c n - cf r n * c i) * cf ms (n + l)) (i + 1) = 0 := by
      rw [Su_congr (g := fun n => c n * cf ms (n + l) + cf r n * cf ms (n + l) * (-c i)) fun n _ => by grind, Su_add, Su_mul, e1, e2]
      grind
    rw [Su, hr.top] at e
    grind) i
  rcases Nat.lt_or_ge n i with z | z
  · have := h n z (by omega)
    grind
  · obtain rfl : n = i := by omega
    rw [hr.top, Rat.one_mul]
theorem su_sI {f : Nat → Rat} {g : Nat → Int} : ∀ {m : Nat}, (∀ h, h < m → f h = g h) → Su f m = (sI g m : Int)
  | 0, _ => rfl
  | m + 1, h => by rw [Su, sI, su_sI fun i hi => h i (by omega), h m (by omega), Rat.intCast_add]
structure Bf (ms g : List Rat) (i : Nat) (s q : Rat) : Prop where
  none : i = 0 → g = [] ∧ s = 0
  some : ∀ j, i = j + 1 → Mo ms g j ∧ lf ms g j = q ∧ s * q = lf ms g i
theorem Bf.len {ms g : List Rat} {i : Nat} {s q : Rat} (h : Bf ms g i s q) : g.length ≤ i := by
  rcases i with _ | j
  · rw [(h.none rfl).1]; exact Nat.le_refl _
  · rw [(h.some j rfl).1.len]; exact Nat.le_refl _
theorem Mo.step {ms f g : List Rat} {i : Nat} {s t q u : Rat} (hf : Mo ms f i) (hg : Bf ms g i s q) (q0 : q ≠ 0) (hu : lf ms f i = u) (ht : t * u = lf ms f (i + 1)) : Mo ms (nx2 (t - s) (u / q) f g) (i + 1) := by
  have gz : ∀ k, i ≤ k → cf g k = 0 := fun k hk => cf_ge (by have := hg.len; omega)
  have fz : ∀ k, i < k → cf f k = 0 := fun k hk => cf_ge (by rw [hf.len]; omega)
  have top : cf (nx2 (t - s) (u / q) f g) (i + 1) = 1 := by
    rw [cf_nx2, sh, if_pos (by omega), Nat.add_sub_cancel, hf.top, fz _ (by omega), gz _ (by omega)]; grind
  refine ⟨?_, top, fun l hl => ?_⟩
  · have a : (nx2 (t - s) (u / q) f g).length ≤ i + 2 := (NZ_nx2 _ _ _ _).le fun k hk => by
      rw [cf_nx2, sh, if_pos (by omega), fz _ (by omega), fz _ (by omega), gz _ (by omega)]; grind
    rcases Nat.lt_or_ge (i + 1) (nx2 (t - s) (u / q) f g).length with z | z
    · omega
    · rw [cf_ge z] at top
      exact absurd top (by decide)
  · rw [lf_nx2]
    rcases Nat.lt_or_ge l i with z | z
    · obtain ⟨j, rfl⟩ : ∃ j, i = j + 1 := ⟨i - 1, by omega⟩
      obtain ⟨mg, eq, _⟩ := hg.some j rfl
      rw [hf.orth l z]
      rcases Nat.lt_or_ge l j with y | y
      · rw [hf.orth (l + 1) (by omega), mg.orth l y]; grind
      · obtain rfl : l = j := by omega
        rw [hu, eq, Rat.div_def, Rat.mul_assoc, Rat.inv_mul_cancel q q0]; grind
    · obtain rfl : l = i := by omega
      rw [hu, ← ht]
      rcases l with _ | j
      · obtain ⟨rfl, rfl⟩ := hg.none rfl
        have : lf ms [] 0 = 0 := rfl
        rw [this]; grind
      · obtain ⟨mg, eq, es⟩ := hg.some j rfl
        rw [← es, Rat.div_def]
        have : u * q⁻¹ * (s * q) = u * s * (q⁻¹ * q) := by grind
        rw [this, Rat.inv_mul_cancel q q0]; grind
theorem Mo.one {ms : List Rat} : Mo ms [1] 0 := ⟨rfl, rfl, fun l hl => absurd hl (by omega)⟩
def vl (x : Rat) : List Rat → Rat
  | [] => 0
  | a :: f => a + x * vl x f
def dv (x : Rat) : List Rat → List Rat
  | [] => []
  | _ :: f => match f with | [] => [] | b :: g => vl x (b :: g) :: dv x (b :: g)
def pw (x : Rat) : Nat → Rat
  | 0 => 1
  | n + 1 => pw x n * x
theorem Su_front (F : Nat → Rat) : ∀ n, Su F (n + 1) = F 0 + Su (fun k => F (k + 1)) n
  | 0 => by rw [Su, Su, Su]; grind
  | n + 1 => by rw [Su, Su_front F n, Su]; grind
theorem ext_cf {f g : List Rat} (l : f.length = g.length) (h : ∀ n, n < f.length → cf f n = cf g n) : f = g := by
  refine List.ext_getElem l fun n h1 h2 => ?_
  have a := h n h1
  unfold cf at a
  rw [List.getD_eq_getElem?_getD, List.getD_eq_getElem?_getD, List.getElem?_eq_getElem h1, List.getElem?_eq_getElem h2] at a
  exact a
theorem Mo.eq {ms : List Rat} {p : Nat → List Rat} {i : Nat} (hp : ∀ j, j < i → Mo ms (p j) j) (nz : ∀ j, j < i → lf ms (p j) j ≠ 0) {r q : List Rat} (hr : Mo ms r i) (hq : Mo ms q i) : r = q := by
  refine ext_cf (by rw [hr.len, hq.len]) fun n hn => ?_
  rw [hr.len] at hn
  have := Mo.uniq hp nz hr (c := cf q) (fun l hl => by rw [hq.su l (show i < i + 1 by omega)]; exact hq.orth l hl) (n := n) (by omega)
  rw [hq.top, Rat.mul_one] at this
  exact this
end Mt
namespace L2
open PySem PySem.Spec PyProof.Rows
section
variable {X : Cx} {es : List Expr} {y1 : Nat} {tp : Pos} {a b elt : Expr} {te te2 tl : TE} {g : TG} {p pos pos' : Pos} {scope : Scope} {js : List (Option Nat)}
end
section
variable {X : Cx}
end
def tCoR2 (js : List (Option Nat)) (te te2 : TE) (g : TG) (tl : TE) : TE := fun σ H Q => te σ H fun v H1 => te2 σ H1 fun v2 H2 => ∃ i : Int, v = .int i ∧ ∃ j : Int, v2 = .int j ∧ (-(2 ^ 62) ≤ i ∧ i < 2 ^ 62 ∧ -(2 ^ 62) ≤ j ∧ j < 2 ^ 62) ∧ CO (j - i).toNat (fun m _ x => x = .int (i + m)) (fun _ => True) js g tl σ H2 Q
section
variable {X : Cx} {tg a b elt : Expr} {te te2 tl : TE} {g : TG} {p pos pos' : Pos} {scope : Scope} {js : List (Option Nat)}
theorem coR2 (hm : X.mg "range" = none) (ha : PE X a te) (hb : PE X b te2) (hp : ∀ (wi : TI), PI X tg (.Call (.Name "range" p) [a, b] [] pos') wi → PCo X (.ListComp elt [⟨tg, .Call (.Name "range" p) [a, b] [] pos', [], 0⟩] scope pos) scope (.Call (.Name "range" p) [a, b] [] pos') (tComp js wi (tMoG g) (tMo tl)))
    (hg : Gl X "range" := by rfl) (hs : starEach [a, b] X.env = [(false, eval a X.env), (false, eval b X.env)] := by rfl) (hs2 : starEach [b] X.env = [(false, eval b X.env)] := by rfl) :
    PCo X (.ListComp elt [⟨tg, .Call (.Name "range" p) [a, b] [] pos', [], 0⟩] scope pos) scope (.Call (.Name "range" p) [a, b] [] pos') (tCoR2 js te te2 g tl) := by
  refine (hp _ (pi_range2 hg hm (pa_cons ha.mo (pa_cons hb.mo pa_nil (by rw [hs2]; rfl)) (by rw [hs, hs2])) hs hs2)).of fun σ H Q h => ?_
  refine ⟨_, h, fun v H1 h2 => ⟨_, h2, fun v2 H2 ⟨i, e1, j, e2, bd, c⟩ => ⟨i, j, by rw [e1, e2], bd, ?_⟩⟩⟩
  exact CO.run (J := Itr i (j - i).toNat) c (fun _ _ h _ => h) (fun _ _ => Nat.le_refl _) fun m H x H' _ _ y => ⟨y.1, y.2⟩
end
end L2
namespace Mt
def sg (k : Nat) : Rat := if k % 2 = 0 then 1 else -1
theorem sg_succ (k : Nat) : sg (k + 1) = -sg k := by
  unfold sg
  by_cases h : k % 2 = 0
  · rw [if_pos h, if_neg (by omega)]
  · rw [if_neg h, if_pos (by omega)]; grind
theorem sg_sq (k : Nat) : sg k * sg k = 1 := by
  unfold sg
  split <;> grind
def sk (k j : Nat) : Nat := if j < k then j else j + 1
def det : Nat → (Nat → Nat → Rat) → Rat
  | 0, _ => 1
  | n + 1, a => Su (fun k => sg k * a 0 k * det n (fun i j => a (i + 1) (sk k j))) (n + 1)
theorem det_succ (n : Nat) (a : Nat → Nat → Rat) : det (n + 1) a = Su (fun k => sg k * a 0 k * det n (fun i j => a (i + 1) (sk k j))) (n + 1) := rfl
theorem det_congr : ∀ {n : Nat} {a b : Nat → Nat → Rat}, (∀ i, i < n → ∀ j, j < n → a i j = b i j) → det n a = det n b
  | 0, _, _, _ => rfl
  | n + 1, a, b, h => by
    rw [det_succ, det_succ]
    refine Su_congr fun k hk => ?_
    rw [h 0 (by omega) k hk, det_congr (n := n) (b := fun i j => b (i + 1) (sk k j)) fun i hi j hj => h (i + 1) (by omega) (sk k j) (by unfold sk; split <;> omega)]
def sr (a : Nat → Nat → Rat) (r : Nat) (v : Nat → Rat) : Nat → Nat → Rat := fun i j => if i = r then v j else a i j
theorem det_row : ∀ (n r : Nat) (a : Nat → Nat → Rat) (u v : Nat → Rat) (c : Rat), r < n → det n (sr a r fun j => u j + c * v j) = det n (sr a r u) + c * det n (sr a r v)
  | 0, r, _, _, _, _, h => absurd h (by omega)
  | n + 1, 0, a, u, v, c, _ => by
    rw [det_succ, det_succ, det_succ, Rat.mul_comm c, ← Su_mul, ← Su_add]
    refine Su_congr fun k _ => ?_
    have e : ∀ w : Nat → Rat, (fun i j => sr a 0 w (i + 1) (sk k j)) = fun i j => a (i + 1) (sk k j) := fun w => by
      funext i j; unfold sr; rw [if_neg (by omega)]
    have f : ∀ w : Nat → Rat, sr a 0 w 0 k = w k := fun w => by unfold sr; rw [if_pos rfl]
    rw [e, e, e, f, f, f]
    grind
  | n + 1, r + 1, a, u, v, c, h => by
    rw [det_succ, det_succ, det_succ, Rat.mul_comm c, ← Su_mul, ← Su_add]
    refine Su_congr fun k _ => ?_
    have e : ∀ w : Nat → Rat, (fun i j => sr a (r + 1) w (i + 1) (sk k j)) = sr (fun i j => a (i + 1) (sk k j)) r fun j => w (sk k j) := fun w => by
      funext i j; unfold sr
      by_cases z : i = r
      · rw [if_pos (by omega), if_pos z]
      · rw [if_neg (by omega), if_neg z]
    have f : ∀ w : Nat → Rat, sr a (r + 1) w 0 k = a 0 k := fun w => by unfold sr; rw [if_neg (by omega)]
    rw [e, e, e, f, f, f, det_row n r _ (fun j => u (sk k j)) (fun j => v (sk k j)) c (by omega)]
    grind
theorem det_zrow (n r : Nat) (a : Nat → Nat → Rat) (h : r < n) : det n (sr a r fun _ => 0) = 0 := by
  have e := det_row n r a (fun _ => 0) (fun _ => 0) 1 h
  have z : (fun _ : Nat => (0 : Rat) + 1 * 0) = fun _ => 0 := by funext; grind
  rw [z] at e
  grind
theorem det_scale (n r : Nat) (a : Nat → Nat → Rat) (v : Nat → Rat) (c : Rat) (h : r < n) : det n (sr a r fun j => c * v j) = c * det n (sr a r v) := by
  have e := det_row n r a (fun _ => 0) v c h
  rw [det_zrow n r a h] at e
  have z : (fun j => (0 : Rat) + c * v j) = fun j => c * v j := by funext; grind
  rw [z] at e
  grind
def sw (r : Nat) (a : Nat → Nat → Rat) : Nat → Nat → Rat := fun i j => a (if i = r then r + 1 else if i = r + 1 then r else i) j
theorem Su_pairs (G : Nat → Nat → Rat) : ∀ N, Su (fun k => Su (fun l => G k l) N) (N + 1) = Su (fun l => Su (fun k => G k l + G (l + 1) k) (l + 1)) N
  | 0 => by rw [Su, Su, Su, Su]; grind
  | N + 1 => by
    have e : Su (fun l => Su (fun k => G k l + G (l + 1) k) (l + 1)) (N + 1) = Su (fun l => Su (fun k => G k l + G (l + 1) k) (l + 1)) N + Su (fun k => G k N + G (N + 1) k) (N + 1) := rfl
    have e2 : Su (fun k => Su (fun l => G k l) (N + 1)) (N + 1 + 1) = Su (fun k => Su (fun l => G k l) N + G k N) (N + 1) + Su (fun l => G (N + 1) l) (N + 1) := rfl
    rw [e, e2, Su_add, Su_pairs G N, Su_add]
    grind
theorem sk_sk {k l j : Nat} (h : k ≤ l) : sk k (sk l j) = sk (l + 1) (sk k j) := by
  unfold sk
  repeat' split
  all_goals omega
theorem det_two (n : Nat) (a : Nat → Nat → Rat) : det (n + 2) a = Su (fun l => Su (fun k => sg k * sg l * (a 0 k * a 1 (l + 1) - a 0 (l + 1) * a 1 k) * det n (fun i j => a (i + 2) (sk k (sk l j)))) (l + 1)) (n + 1) := by
  rw [det_succ, Su_congr (g := fun k => Su (fun l => sg k * sg l * (a 0 k * a 1 (sk k l)) * det n (fun i j => a (i + 2) (sk k (sk l j)))) (n + 1)) fun k _ => ?_, Su_pairs]
  · refine Su_congr fun l _ => Su_congr fun k hk => ?_
    have e1 : sk k l = l + 1 := by unfold sk; rw [if_neg (by omega)]
    have e2 : sk (l + 1) k = k := by unfold sk; rw [if_pos (by omega)]
    have e3 : (fun i j => a (i + 2) (sk (l + 1) (sk k j))) = fun i j => a (i + 2) (sk k (sk l j)) := by
      funext i j; rw [sk_sk (k := k) (l := l) (j := j) (by omega)]
    rw [e1, e2, e3, sg_succ]
    grind
  · rw [det_succ, Rat.mul_comm, ← Su_mul]
    exact Su_congr fun l _ => by grind
theorem det_sw : ∀ (n r : Nat) (a : Nat → Nat → Rat), r + 1 < n → det n (sw r a) = -det n a
  | 0, _, _, h => absurd h (by omega)
  | 1, _, _, h => absurd h (by omega)
  | n + 2, 0, a, _ => by
    have m : -det (n + 2) a = det (n + 2) a * (-1) := by grind
    rw [m, det_two, det_two, ← Su_mul]
    refine Su_congr fun l _ => ?_
    rw [← Su_mul]
    refine Su_congr fun k _ => ?_
    have e : (fun i j => sw 0 a (i + 2) (sk k (sk l j))) = fun i j => a (i + 2) (sk k (sk l j)) := by
      funext i j; unfold sw; rw [if_neg (by omega), if_neg (by omega)]
    have f0 : ∀ j, sw 0 a 0 j = a 1 j := fun j => by unfold sw; rw [if_pos rfl]
    have f1 : ∀ j, sw 0 a 1 j = a 0 j := fun j => by unfold sw; rw [if_neg (by omega), if_pos (by omega)]
    rw [e, f0, f0, f1, f1]
    grind
  | n + 2, r + 1, a, h => by
    have m : -det (n + 2) a = det (n + 2) a * (-1) := by grind
    rw [m, det_succ, det_succ, ← Su_mul]
    refine Su_congr fun k _ => ?_
    have e : (fun i j => sw (r + 1) a (i + 1) (sk k j)) = sw r fun i j => a (i + 1) (sk k j) := by
      funext i j; unfold sw
      by_cases z : i = r
      · rw [if_pos (by omega), if_pos z]
      rw [if_neg (by omega), if_neg z]
      by_cases y : i = r + 1
      · rw [if_pos (by omega), if_pos y]
      · rw [if_neg (by omega), if_neg y]
    have f : sw (r + 1) a 0 k = a 0 k := by unfold sw; rw [if_neg (by omega), if_neg (by omega)]
    rw [e, f, det_sw (n + 1) r _ (by omega)]
    grind
theorem det_eq_rows {n : Nat} : ∀ (d r : Nat) (a : Nat → Nat → Rat), r + d + 1 < n → (∀ j, j < n → a r j = a (r + d + 1) j) → det n a = 0
  | 0, r, a, h, e => by
    have s := det_sw n r a (by omega)
    have t : det n (sw r a) = det n a := det_congr fun i _ j hj => by
      unfold sw
      by_cases z : i = r
      · rw [if_pos z, z]; exact (e j hj).symm
      rw [if_neg z]
      by_cases y : i = r + 1
      · rw [if_pos y, y]; exact e j hj
      · rw [if_neg y]
    grind
  | d + 1, r, a, h, e => by
    have s := det_sw n (r + d + 1) a (by omega)
    have t := det_eq_rows (n := n) d r (sw (r + d + 1) a) (by omega) fun j hj => by
      have e1 : sw (r + d + 1) a r j = a r j := by unfold sw; rw [if_neg (show ¬ r = r + d + 1 by omega), if_neg (show ¬ r = r + d + 1 + 1 by omega)]
      have e2 : sw (r + d + 1) a (r + d + 1) j = a (r + d + 2) j := by unfold sw; rw [if_pos rfl]
      rw [e1, e2]; exact e j hj
    grind
theorem det_same {n r s : Nat} {a : Nat → Nat → Rat} (hr : r < n) (hs : s < n) (ne : r ≠ s) (e : ∀ j, j < n → a r j = a s j) : det n a = 0 := by
  rcases Nat.lt_or_gt_of_ne ne with z | z
  · exact det_eq_rows (s - r - 1) r a (by omega) fun j hj => by rw [show r + (s - r - 1) + 1 = s by omega]; exact e j hj
  · exact det_eq_rows (r - s - 1) s a (by omega) fun j hj => by rw [show s + (r - s - 1) + 1 = r by omega]; exact (e j hj).symm
theorem sr_self (a : Nat → Nat → Rat) (r : Nat) : sr a r (a r) = a := by
  funext i j; unfold sr
  by_cases z : i = r
  · rw [if_pos z, z]
  · rw [if_neg z]
theorem det_addrow {n r s : Nat} (a : Nat → Nat → Rat) (c : Rat) (hr : r < n) (hs : s < n) (ne : r ≠ s) : det n (sr a r fun j => a r j + c * a s j) = det n a := by
  have z : det n (sr a r (a s)) = 0 := det_same hr hs ne fun j _ => by unfold sr; rw [if_pos rfl, if_neg (Ne.symm ne)]
  rw [det_row n r a (a r) (a s) c hr, sr_self, z]
  grind
def mv (r : Nat) (a : Nat → Nat → Rat) : Nat → Nat → Rat := fun i j => if i = 0 then a r j else if i ≤ r then a (i - 1) j else a i j
theorem det_mv {n : Nat} : ∀ (r : Nat) (a : Nat → Nat → Rat), r < n → det n (mv r a) = sg r * det n a
  | 0, a, h => by
    have e : mv 0 a = a := by
      funext i j; unfold mv
      by_cases z : i = 0
      · rw [if_pos z, z]
      · rw [if_neg z, if_neg (by omega)]
    rw [e]
    show _ = 1 * _
    grind
  | r + 1, a, h => by
    have e : mv (r + 1) a = mv r (sw r a) := by
      funext i j; unfold mv sw
      by_cases z : i = 0
      · rw [if_pos z, if_pos z, if_pos rfl]
      rw [if_neg z, if_neg z]
      by_cases y : i ≤ r
      · rw [if_pos (by omega), if_pos y, if_neg (by omega), if_neg (by omega)]
      rw [if_neg y]
      by_cases x : i = r + 1
      · rw [if_pos (by omega), if_neg (by omega), if_pos x, x, Nat.add_sub_cancel]
      · rw [if_neg (by omega), if_neg (by omega), if_neg x]
    rw [e, det_mv r _ (by omega), det_sw n r a h, sg_succ]
    grind
theorem det_zcol : ∀ {n : Nat} {a : Nat → Nat → Rat}, 0 < n → (∀ i, i < n → a i 0 = 0) → det n a = 0
  | 0, _, h, _ => absurd h (by omega)
  | n + 1, a, _, h => by
    rw [det_succ, Su_congr (g := fun _ => 0) fun k hk => ?_, Su_zero]
    rcases k with _ | k
    · rw [h 0 (by omega)]; grind
    · have : det n (fun i j => a (i + 1) (sk (k + 1) j)) = 0 := det_zcol (by omega) fun i hi => by
        have : sk (k + 1) 0 = 0 := by unfold sk; rw [if_pos (by omega)]
        rw [this]; exact h (i + 1) (by omega)
      rw [this, Rat.mul_zero]
theorem det_front {n : Nat} {a : Nat → Nat → Rat} (h : ∀ i, 0 < i → i < n + 1 → a i 0 = 0) : det (n + 1) a = a 0 0 * det n (fun i j => a (i + 1) (j + 1)) := by
  rw [det_succ, Su_front, Su_congr (g := fun _ => 0) fun k hk => ?_, Su_zero]
  · have : (fun i j => a (i + 1) (sk 0 j)) = fun i j => a (i + 1) (j + 1) := by funext i j; unfold sk; rw [if_neg (by omega)]
    rw [this]
    show 1 * _ * _ + 0 = _
    grind
  · have : det n (fun i j => a (i + 1) (sk (k + 1) j)) = 0 := det_zcol (by omega) fun i hi => by
      have : sk (k + 1) 0 = 0 := by unfold sk; rw [if_pos (by omega)]
      rw [this]; exact h (i + 1) (by omega) (by omega)
    rw [this, Rat.mul_zero]
def el (a : Nat → Nat → Rat) (c : Nat → Rat) (m : Nat) : Nat → Nat → Rat := fun i j => if 0 < i ∧ i ≤ m then a i j + c i * a 0 j else a i j
theorem det_el {n : Nat} (a : Nat → Nat → Rat) (c : Nat → Rat) : ∀ m, m < n → det n (el a c m) = det n a
  | 0, _ => det_congr fun i _ j _ => by unfold el; rw [if_neg (by omega)]
  | m + 1, h => by
    rw [← det_el a c m (by omega), ← det_addrow (el a c m) (c (m + 1)) (r := m + 1) (s := 0) h (by omega) (by omega)]
    refine det_congr fun i _ j _ => ?_
    unfold sr el
    by_cases z : i = m + 1
    · subst z
      rw [if_pos (show m + 1 = m + 1 from rfl)]
      dsimp only
      rw [if_pos (show 0 < m + 1 ∧ m + 1 ≤ m + 1 by omega), if_neg (show ¬ (0 < m + 1 ∧ m + 1 ≤ m) by omega), if_neg (show ¬ (0 < 0 ∧ 0 ≤ m) by omega)]
    · rw [if_neg z]
      by_cases y : 0 < i ∧ i ≤ m
      · rw [if_pos (by omega), if_pos y]
      · rw [if_neg (by omega), if_neg y]
theorem det_step {n : Nat} {a : Nat → Nat → Rat} (h : a 0 0 ≠ 0) : det (n + 1) a = a 0 0 * det n (fun i j => a (i + 1) (j + 1) - a (i + 1) 0 * a 0 (j + 1) / a 0 0) := by
  rw [← det_el a (fun i => -(a i 0 / a 0 0)) n (by omega), det_front]
  · have e0 : el a (fun i => -(a i 0 / a 0 0)) n 0 0 = a 0 0 := by unfold el; rw [if_neg (by omega)]
    rw [e0]
    congr 1
    refine det_congr fun i hi j _ => ?_
    unfold el
    rw [if_pos (by omega)]
    grind
  · intro i h0 hi
    unfold el
    rw [if_pos (by omega)]
    show a i 0 + -(a i 0 / a 0 0) * a 0 0 = 0
    rw [Rat.div_def]
    have := Rat.inv_mul_cancel _ h
    grind
def tr (a : Nat → Nat → Rat) : Nat → Nat → Rat := fun i j => a j i
def sgI (k : Nat) : Int := if k % 2 = 0 then 1 else -1
theorem sg_int (k : Nat) : sg k = (sgI k : Int) := by
  unfold sg sgI
  split <;> rfl
def detI : Nat → (Nat → Nat → Int) → Int
  | 0, _ => 1
  | n + 1, a => sI (fun k => sgI k * a 0 k * detI n (fun i j => a (i + 1) (sk k j))) (n + 1)
theorem det_int : ∀ (n : Nat) (a : Nat → Nat → Int), det n (fun i j => (a i j : Rat)) = (detI n a : Int)
  | 0, _ => rfl
  | n + 1, a => by
    rw [det_succ, detI]
    refine su_sI fun k _ => ?_
    rw [det_int n fun i j => a (i + 1) (sk k j), sg_int, Rat.intCast_mul, Rat.intCast_mul]
def fact : Nat → Nat
  | 0 => 1
  | n + 1 => (n + 1) * fact n
theorem detI_bd {X : Nat} : ∀ (n : Nat) (a : Nat → Nat → Int), (∀ i j, (a i j).natAbs ≤ X) → (detI n a).natAbs ≤ fact n * X ^ n
  | 0, _, _ => by simp [detI, fact]
  | n + 1, a, h => by
    rw [detI, fact]
    refine Nat.le_trans (sI_bd (N := X * (fact n * X ^ n)) (fun k => ?_) (n + 1)) ?_
    · rw [Int.natAbs_mul, Int.natAbs_mul]
      refine Nat.mul_le_mul ?_ (detI_bd n _ fun i j => h _ _)
      have : (sgI k).natAbs = 1 := by unfold sgI; split <;> rfl
      rw [this, Nat.one_mul]
      exact h 0 k
    · rw [Nat.pow_succ]
      simp only [Nat.mul_comm, Nat.mul_left_comm, Nat.mul_assoc]
      exact Nat.le_refl _
def sch (a : Nat → Nat → Rat) : Nat → Nat → Rat := fun i j => a (i + 1) (j + 1) - a (i + 1) 0 * a 0 (j + 1) / a 0 0
def scn : Nat → (Nat → Nat → Rat) → Nat → Nat → Rat
  | 0, a => a
  | t + 1, a => scn t (sch a)
theorem scn_succ : ∀ (t : Nat) (a : Nat → Nat → Rat), scn (t + 1) a = sch (scn t a)
  | 0, _ => rfl
  | t + 1, a => by rw [scn, scn_succ t (sch a)]; rfl
def pv : Nat → (Nat → Nat → Rat) → Rat
  | 0, _ => 1
  | t + 1, a => a 0 0 * pv t (sch a)
theorem pv_succ : ∀ (t : Nat) (a : Nat → Nat → Rat), pv (t + 1) a = pv t a * scn t a 0 0
  | 0, a => by show a 0 0 * 1 = 1 * a 0 0; grind
  | t + 1, a => by
    show a 0 0 * pv (t + 1) (sch a) = a 0 0 * pv t (sch a) * scn t (sch a) 0 0
    rw [pv_succ t (sch a)]; grind
def Pz (t : Nat) (a : Nat → Nat → Rat) : Prop := ∀ s, s < t → scn s a 0 0 ≠ 0
theorem Pz.tail {t : Nat} {a : Nat → Nat → Rat} (h : Pz (t + 1) a) : a 0 0 ≠ 0 ∧ Pz t (sch a) := ⟨h 0 (by omega), fun s hs => h (s + 1) (by omega)⟩
theorem det_scn : ∀ (t m : Nat) (a : Nat → Nat → Rat), Pz t a → det (m + t) a = pv t a * det m (scn t a)
  | 0, m, a, _ => by show _ = 1 * _; rw [Rat.one_mul]; rfl
  | t + 1, m, a, h => by
    rw [← Nat.add_assoc, det_step h.tail.1]
    show a 0 0 * det (m + t) (sch a) = a 0 0 * pv t (sch a) * det m (scn t (sch a))
    rw [det_scn t m (sch a) h.tail.2]; grind
def bm (t i j : Nat) (a : Nat → Nat → Rat) : Nat → Nat → Rat := fun r c => a (if r < t then r else t + i) (if c < t then c else t + j)
theorem bm_det : ∀ (t i j : Nat) (a : Nat → Nat → Rat), Pz t a → det (t + 1) (bm t i j a) = pv t a * scn t a i j
  | 0, i, j, a, _ => by
    show Su _ 1 = 1 * a i j
    show (0 : Rat) + 1 * bm 0 i j a 0 0 * 1 = 1 * a i j
    have : bm 0 i j a 0 0 = a i j := by unfold bm; rw [if_neg (by omega), if_neg (by omega), Nat.zero_add, Nat.zero_add]
    rw [this]; grind
  | t + 1, i, j, a, h => by
    have b0 : bm (t + 1) i j a 0 0 = a 0 0 := by unfold bm; rw [if_pos (by omega), if_pos (by omega)]
    rw [det_step (by rw [b0]; exact h.tail.1), b0]
    have e : (fun r c => bm (t + 1) i j a (r + 1) (c + 1) - bm (t + 1) i j a (r + 1) 0 * bm (t + 1) i j a 0 (c + 1) / a 0 0) = bm t i j (sch a) := by
      funext r c
      unfold bm sch
      have e1 : (if r + 1 < t + 1 then r + 1 else t + 1 + i) = (if r < t then r else t + i) + 1 := by split <;> split <;> omega
      have e2 : (if c + 1 < t + 1 then c + 1 else t + 1 + j) = (if c < t then c else t + j) + 1 := by split <;> split <;> omega
      have e3 : (if 0 < t + 1 then 0 else t + 1 + j) = 0 := if_pos (by omega)
      have e4 : (if 0 < t + 1 then 0 else t + 1 + i) = 0 := if_pos (by omega)
      rw [e1, e2, e3, e4]
    rw [e, bm_det t i j (sch a) h.tail.2]
    show _ = a 0 0 * pv t (sch a) * scn t (sch a) i j
    grind
def ixm (t r i : Nat) : Nat := if i < t then i else if i = t then t + r else if i ≤ t + r then i - 1 else i
theorem ixm_succ (t r i : Nat) : ixm (t + 1) r (i + 1) = ixm t r i + 1 := by
  unfold ixm
  repeat' split
  all_goals omega
theorem ixm_front (t r : Nat) : ixm (t + 1) r 0 = 0 := by unfold ixm; rw [if_pos (by omega)]
def mvt (t r : Nat) (a : Nat → Nat → Rat) : Nat → Nat → Rat := fun i j => a (ixm t r i) j
theorem mvt_zero (r : Nat) (a : Nat → Nat → Rat) : mvt 0 r a = mv r a := by
  funext i j; unfold mvt mv ixm
  rw [if_neg (by omega), Nat.zero_add]
  by_cases z : i = 0
  · rw [if_pos z, if_pos z]
  rw [if_neg z, if_neg z]
  by_cases y : i ≤ r
  · rw [if_pos y, if_pos y]
  · rw [if_neg y, if_neg y]
theorem det_mvt : ∀ (t r n : Nat) (a : Nat → Nat → Rat), t + r < n → det n (mvt t r a) = sg r * det n a
  | 0, r, n, a, h => by rw [mvt_zero]; exact det_mv r a (by omega)
  | t + 1, r, 0, a, h => absurd h (by omega)
  | t + 1, r, n + 1, a, h => by
    rw [det_succ, det_succ, Rat.mul_comm (sg r), ← Su_mul]
    refine Su_congr fun k _ => ?_
    have f : mvt (t + 1) r a 0 k = a 0 k := by unfold mvt; rw [ixm_front]
    have e : (fun i j => mvt (t + 1) r a (i + 1) (sk k j)) = mvt t r fun i j => a (i + 1) (sk k j) := by
      funext i j; unfold mvt; rw [ixm_succ]
    rw [f, e, det_mvt t r n _ (by omega)]
    grind
theorem sch_mvt (t r : Nat) (a : Nat → Nat → Rat) : sch (mvt (t + 1) r a) = mvt t r (sch a) := by
  funext i j
  unfold sch mvt
  rw [ixm_succ, ixm_front]
theorem scn_mvt : ∀ (t r : Nat) (a : Nat → Nat → Rat), scn t (mvt t r a) = mv r (scn t a)
  | 0, r, a => mvt_zero r a
  | t + 1, r, a => by
    show scn t (sch (mvt (t + 1) r a)) = mv r (scn t (sch a))
    rw [sch_mvt, scn_mvt t r (sch a)]
theorem scn_mvt_lt : ∀ (t s r : Nat) (a : Nat → Nat → Rat), s < t → scn s (mvt t r a) 0 0 = scn s a 0 0
  | 0, _, _, _, h => absurd h (by omega)
  | t + 1, 0, r, a, _ => by show mvt (t + 1) r a 0 0 = a 0 0; unfold mvt; rw [ixm_front]
  | t + 1, s + 1, r, a, h => by
    show scn s (sch (mvt (t + 1) r a)) 0 0 = scn s (sch a) 0 0
    rw [sch_mvt, scn_mvt_lt t s r (sch a) (by omega)]
theorem pv_mvt : ∀ (t r : Nat) (a : Nat → Nat → Rat), pv t (mvt t r a) = pv t a
  | 0, _, _ => rfl
  | t + 1, r, a => by
    have f : mvt (t + 1) r a 0 0 = a 0 0 := by unfold mvt; rw [ixm_front]
    show mvt (t + 1) r a 0 0 * pv t (sch (mvt (t + 1) r a)) = a 0 0 * pv t (sch a)
    rw [sch_mvt, pv_mvt t r (sch a), f]
end Mt
namespace Mt
def arI (A : Nat → Nat → Int) : Nat → Nat → Rat := fun i j => (A i j : Rat)
def bmI (t i j : Nat) (A : Nat → Nat → Int) : Nat → Nat → Int := fun r c => A (if r < t then r else t + i) (if c < t then c else t + j)
structure Ba (A : Nat → Nat → Int) (t m : Nat) (R : Nat → Nat → Int) (b : Int) : Prop where
  pz : Pz t (arI A)
  r : ∀ i, i < m → ∀ j, j < m → (R i j : Rat) = pv t (arI A) * scn t (arI A) i j
  b : (b : Rat) = pv t (arI A)
theorem Ba.start (A : Nat → Nat → Int) (n : Nat) : Ba A 0 n A 1 := ⟨fun s h => absurd h (by omega), fun i _ j _ => by show _ = 1 * arI A i j; rw [Rat.one_mul]; rfl, rfl⟩
theorem pv_ne : ∀ {t : Nat} {a : Nat → Nat → Rat}, Pz t a → pv t a ≠ 0
  | 0, _, _ => by show (1 : Rat) ≠ 0; decide
  | t + 1, a, h => by
    have := pv_ne h.tail.2
    show a 0 0 * pv t (sch a) ≠ 0
    exact fun z => (Rat.mul_eq_zero.mp z).elim h.tail.1 this
theorem Ba.bn {A R : Nat → Nat → Int} {t m : Nat} {b : Int} (h : Ba A t m R b) : b ≠ 0 := fun z => by
  have := h.b
  rw [z] at this
  exact pv_ne h.pz this.symm
theorem Ba.isdet {A R : Nat → Nat → Int} {t m : Nat} {b : Int} (h : Ba A t m R b) {i j : Nat} (hi : i < m) (hj : j < m) : R i j = detI (t + 1) (bmI t i j A) := by
  have e := h.r i hi j hj
  rw [← bm_det t i j (arI A) h.pz] at e
  have e2 := det_int (t + 1) (bmI t i j A)
  have e3 : (fun r c => (bmI t i j A r c : Rat)) = bm t i j (arI A) := rfl
  rw [e3, ← e] at e2
  exact_mod_cast e2
theorem Ba.bd {A R : Nat → Nat → Int} {t m X : Nat} {b : Int} (h : Ba A t m R b) (hX : ∀ i j, (A i j).natAbs ≤ X) {i j : Nat} (hi : i < m) (hj : j < m) : (R i j).natAbs ≤ fact (t + 1) * X ^ (t + 1) := by
  rw [h.isdet hi hj]
  exact detI_bd (t + 1) _ fun _ _ => hX _ _
theorem ixm_lt {r i m : Nat} (hi : i < m) : ixm 0 r (i + 1) < m + 1 := by
  unfold ixm
  repeat' split
  all_goals omega
theorem Ba.step {A R : Nat → Nat → Int} {t m at_ : Nat} {b : Int} (h : Ba A t (m + 1) R b) (hat : at_ < m + 1) (nz : R at_ 0 ≠ 0) :
    Ba (fun i j => A (ixm t at_ i) j) (t + 1) m (fun i j => (R at_ 0 * R (ixm 0 at_ (i + 1)) (j + 1) - R (ixm 0 at_ (i + 1)) 0 * R at_ (j + 1)).fdiv b) (R at_ 0) := by
  have eA : arI (fun i j => A (ixm t at_ i) j) = mvt t at_ (arI A) := rfl
  have eS : scn t (mvt t at_ (arI A)) = mv at_ (scn t (arI A)) := scn_mvt t at_ (arI A)
  have eP := pv_mvt t at_ (arI A)
  have P0 := pv_ne h.pz
  have s0 : ∀ j, mv at_ (scn t (arI A)) 0 j = scn t (arI A) at_ j := fun j => by unfold mv; rw [if_pos rfl]
  have s1 : ∀ i j, mv at_ (scn t (arI A)) (i + 1) j = scn t (arI A) (ixm 0 at_ (i + 1)) j := fun i j => by rw [← mvt_zero]; rfl
  have p0 : scn t (arI A) at_ 0 ≠ 0 := fun z => by
    have := h.r at_ hat 0 (by omega)
    rw [z, Rat.mul_zero] at this
    exact nz (by exact_mod_cast this)
  have pz : Pz (t + 1) (mvt t at_ (arI A)) := fun s hs => by
    rcases Nat.lt_or_ge s t with y | y
    · rw [scn_mvt_lt t s at_ _ y]; exact h.pz s y
    · obtain rfl : s = t := by omega
      rw [eS, s0]; exact p0
  have pvs : pv (t + 1) (mvt t at_ (arI A)) = pv t (arI A) * scn t (arI A) at_ 0 := by rw [pv_succ, eP, eS, s0]
  refine ⟨by rw [eA]; exact pz, fun i hi j hj => ?_, by rw [eA, pvs]; exact h.r at_ hat 0 (by omega)⟩
  rw [eA, ← bm_det (t + 1) i j _ pz]
  have e2 := det_int (t + 2) (bmI (t + 1) i j fun i j => A (ixm t at_ i) j)
  have e3 : (fun r c => (bmI (t + 1) i j (fun i j => A (ixm t at_ i) j) r c : Rat)) = bm (t + 1) i j (mvt t at_ (arI A)) := rfl
  rw [e3] at e2
  rw [e2]
  have key : R at_ 0 * R (ixm 0 at_ (i + 1)) (j + 1) - R (ixm 0 at_ (i + 1)) 0 * R at_ (j + 1) = b * detI (t + 2) (bmI (t + 1) i j fun i j => A (ixm t at_ i) j) := by
    have q : ((R at_ 0 * R (ixm 0 at_ (i + 1)) (j + 1) - R (ixm 0 at_ (i + 1)) 0 * R at_ (j + 1) : Int) : Rat) = ((b * detI (t + 2) (bmI (t + 1) i j fun i j => A (ixm t at_ i) j) : Int) : Rat) := by
      have hi' := ixm_lt (r := at_) hi
      rw [Rat.intCast_sub, Rat.intCast_mul, Rat.intCast_mul, Rat.intCast_mul, h.r at_ hat 0 (by omega), h.r _ hi' (j + 1) (by omega), h.r _ hi' 0 (by omega), h.r at_ hat (j + 1) (by omega), h.b, ← e2, bm_det (t + 1) i j _ pz, pvs, scn_succ, eS]
      unfold sch
      rw [s1, s1, s0, s0]
      generalize pv t (arI A) = P at *
      generalize scn t (arI A) at_ 0 = u at *
      generalize scn t (arI A) at_ (j + 1) = v
      generalize scn t (arI A) (ixm 0 at_ (i + 1)) 0 = w
      generalize scn t (arI A) (ixm 0 at_ (i + 1)) (j + 1) = x
      rw [Rat.div_def]
      have := Rat.mul_inv_cancel u p0
      grind
    exact_mod_cast q
  rw [key, Int.mul_comm, Int.mul_fdiv_cancel _ h.bn]
theorem Ba.end {A R : Nat → Nat → Int} {n : Nat} {b : Int} (h : Ba A n 0 R b) : det n (arI A) = b := by
  have := det_scn n 0 (arI A) h.pz
  rw [Nat.zero_add] at this
  rw [this, h.b]
  show _ * 1 = _
  rw [Rat.mul_one]
theorem Ba.none {A R : Nat → Nat → Int} {t m : Nat} {b : Int} (h : Ba A t (m + 1) R b) (z : ∀ i, i < m + 1 → R i 0 = 0) : det (m + 1 + t) (arI A) = 0 := by
  rw [det_scn t (m + 1) (arI A) h.pz, det_zcol (by omega) fun i hi => ?_, Rat.mul_zero]
  have e := h.r i hi 0 (by omega)
  rw [z i hi] at e
  exact (Rat.mul_eq_zero.mp e.symm).resolve_left (pv_ne h.pz)
theorem Ba.move (A : Nat → Nat → Int) {t r n : Nat} (h : t + r < n) : det n (arI fun i j => A (ixm t r i) j) = sg r * det n (arI A) := det_mvt t r n (arI A) h
theorem Ba.bdet {A R : Nat → Nat → Int} {t m : Nat} {b : Int} (h : Ba A t m R b) : b = detI t A := by
  have e := det_scn t 0 (arI A) h.pz
  rw [Nat.zero_add] at e
  have e2 : pv t (arI A) * det 0 (scn t (arI A)) = pv t (arI A) := by show _ * 1 = _; rw [Rat.mul_one]
  rw [e2, ← h.b] at e
  have e3 := det_int t A
  rw [show (fun i j => (A i j : Rat)) = arI A from rfl, e] at e3
  exact_mod_cast e3
theorem ixm_at {α : Type} {rs : List α} {r i m : Nat} (hl : rs.length = m + 1) (hr : r < m + 1) (hi : i < m) : (rs.take r ++ rs.drop (r + 1))[i]? = rs[ixm 0 r (i + 1)]? := by
  unfold ixm
  rw [if_neg (by omega), if_neg (by omega), Nat.zero_add]
  by_cases z : i + 1 ≤ r
  · rw [if_pos z, List.getElem?_append_left (by rw [List.length_take]; omega), List.getElem?_take, if_pos (by omega), Nat.add_sub_cancel]
  · rw [if_neg z, List.getElem?_append_right (by rw [List.length_take]; omega), List.getElem?_drop, List.length_take]
    congr 1
    omega
def prN (f : Nat → Nat) : Nat → Nat
  | 0 => 1
  | n + 1 => prN f n * f n
theorem prN_bd {f : Nat → Nat} {d : Nat} (h : ∀ j, 0 < f j ∧ f j ≤ 2 ^ d) : ∀ n, 0 < prN f n ∧ prN f n ≤ 2 ^ (d * n)
  | 0 => ⟨Nat.one_pos, Nat.one_le_two_pow⟩
  | n + 1 => by
    have a := prN_bd h n
    refine ⟨Nat.mul_pos a.1 (h n).1, ?_⟩
    rw [prN, Nat.mul_add, Nat.mul_one, Nat.pow_add]
    exact Nat.mul_le_mul a.2 (h n).2
theorem prN_congr {f g : Nat → Nat} : ∀ {n : Nat}, (∀ j, j < n → f j = g j) → prN f n = prN g n
  | 0, _ => rfl
  | n + 1, h => by rw [prN, prN, prN_congr fun j hj => h j (by omega), h n (by omega)]
theorem det_rows {n : Nat} (a : Nat → Nat → Rat) (c : Nat → Nat) : ∀ m, m ≤ n → det n (fun i j => if i < m then a i j * ((c i : Nat) : Int) else a i j) = ((prN c m : Nat) : Int) * det n a
  | 0, _ => by
    rw [show ((prN c 0 : Nat) : Int) = 1 from rfl, show ((1 : Int) : Rat) = 1 from rfl, Rat.one_mul]
    exact det_congr fun i _ j _ => by rw [if_neg (by omega)]
  | m + 1, h => by
    have e := det_scale n m (fun i j => if i < m then a i j * ((c i : Nat) : Int) else a i j) (fun j => a m j) ((c m : Nat) : Int) (by omega)
    have e1 : det n (sr (fun i j => if i < m then a i j * ((c i : Nat) : Int) else a i j) m fun j => ((c m : Nat) : Int) * a m j) = det n (fun i j => if i < m + 1 then a i j * ((c i : Nat) : Int) else a i j) := det_congr fun i _ j _ => by
      unfold sr
      by_cases z : i = m
      · rw [if_pos z, if_pos (by omega), z, Rat.mul_comm]
      · rw [if_neg z]
        dsimp only
        by_cases y : i < m
        · rw [if_pos y, if_pos (by omega)]
        · rw [if_neg y, if_neg (by omega)]
    have e2 : sr (fun i j => if i < m then a i j * ((c i : Nat) : Int) else a i j) m (fun j => a m j) = fun i j => if i < m then a i j * ((c i : Nat) : Int) else a i j := by
      funext i j; unfold sr
      by_cases z : i = m
      · rw [if_pos z, if_neg (by omega), z]
      · rw [if_neg z]
    rw [e1, e2, det_rows a c m (by omega)] at e
    rw [e, prN, Int.natCast_mul, Rat.intCast_mul]
    grind
theorem prN_front (f : Nat → Nat) : ∀ n, prN f (n + 1) = f 0 * prN (fun i => f (i + 1)) n
  | 0 => by show 1 * f 0 = f 0 * 1; omega
  | n + 1 => by
    rw [prN, prN_front f n, prN, Nat.mul_assoc]
theorem lat_sg {D N k : Nat} {q : Rat} (h : Lat D N q) : Lat D N (sg k * q) := by
  unfold sg
  split
  · rw [Rat.one_mul]; exact h
  · obtain ⟨m, e, b⟩ := h
    refine ⟨-m, ?_, by rw [Int.natAbs_neg]; exact b⟩
    rw [Rat.intCast_neg, ← e]; grind
theorem lat_Su {D N : Nat} {f : Nat → Rat} : ∀ {m : Nat}, (∀ k, k < m → Lat D N (f k)) → Lat D (m * N) (Su f m)
  | 0, _ => by rw [Su]; exact Lat.zero
  | m + 1, h => by
    rw [Su, Nat.add_mul, Nat.one_mul]
    exact (lat_Su fun k hk => h k (by omega)).add (h m (by omega))
theorem det_term {n N k : Nat} {a : Nat → Nat → Rat} {Dr : Nat → Nat} (hk : Lat (Dr 0) N (a 0 k)) (hd : Lat (prN (fun i => Dr (i + 1)) n) (fact n * N ^ n) (det n (fun i j => a (i + 1) (sk k j)))) :
    Lat (prN Dr (n + 1)) (fact n * N ^ (n + 1)) (sg k * a 0 k * det n (fun i j => a (i + 1) (sk k j))) := by
  have e : fact n * N ^ (n + 1) = N * (fact n * N ^ n) := by rw [Nat.pow_succ]; simp only [Nat.mul_comm, Nat.mul_left_comm, Nat.mul_assoc]
  rw [prN_front, e]
  exact (lat_sg hk).mul hd
theorem det_lat : ∀ {n N : Nat} {a : Nat → Nat → Rat} {Dr : Nat → Nat}, (∀ i, i < n → ∀ j, j < n → Lat (Dr i) N (a i j)) → Lat (prN Dr n) (fact n * N ^ n) (det n a)
  | 0, _, _, _, _ => by show Lat 1 (1 * 1) 1; exact Lat.one
  | n + 1, N, a, Dr, h => by
    rw [det_succ, fact, Nat.mul_assoc]
    exact lat_Su fun k hk => det_term (h 0 (by omega) k hk) (det_lat fun i hi j hj => h (i + 1) (by omega) (sk k j) (by unfold sk; split <;> omega))
theorem sk_list {α : Type} (G : Nat → α) {n k : Nat} (hk : k < n + 1) : ((List.range (n + 1)).map G).take k ++ ((List.range (n + 1)).map G).drop (k + 1) = (List.range n).map fun j => G (sk k j) := by
  refine List.ext_getElem (by simp; omega) fun j h1 h2 => ?_
  have hj : j < n := by simpa using h2
  simp only [List.getElem_map, List.getElem_range]
  unfold sk
  by_cases z : j < k
  · rw [List.getElem_append_left (by simp; omega), if_pos z]
    simp
  · rw [List.getElem_append_right (by simp; omega), if_neg z]
    simp only [List.getElem_drop, List.getElem_map, List.getElem_range, List.length_take, List.length_map, List.length_range]
    congr 1
    omega
theorem fact_pos : ∀ n, 0 < fact n
  | 0 => Nat.one_pos
  | n + 1 => Nat.mul_pos (by omega) (fact_pos n)
theorem fact_mono {m : Nat} : ∀ {n : Nat}, m ≤ n → fact m ≤ fact n
  | 0, h => by obtain rfl : m = 0 := by omega
               exact Nat.le_refl _
  | n + 1, h => by
    rcases Nat.lt_or_ge n m with z | z
    · obtain rfl : m = n + 1 := by omega
      exact Nat.le_refl _
    · exact Nat.le_trans (fact_mono z) (Nat.le_mul_of_pos_left _ (by omega))
end Mt
namespace L2
open PySem PySem.Spec PyProof.Rows
theorem wpAny_newFunctionEnvC {M : Model} {A : Around} {E : Value → Shared → Prop} {s : Shared} {scope : Scope} {globals : Addr} {closure : List (Str × Addr)} {qual : Str} {func : Option Addr} {code : Value} {outer : Env} {builtins : Addr} {Q : Env → Shared → Prop}
    (hQ : Q (newEnv scope s.heap.objs.size globals (cellsFrom (s.heap.objs.size + 1) scope.names closure) qual func code (some outer) builtins) { s with heap := pushCells (s.heap.push { cls := .type "dict", data := .dict #[] }) scope.names }) :
    wpAny M A (newFunctionEnv scope globals closure [] qual func code (some outer) builtins) Q E s := by
  simp only [newFunctionEnv, Option.isSome_some, if_true]
  refine wpAny_bind (wpAny_alloc ?_)
  refine wpAny_bind (wpAny_layCells _ (fun name kind cells => by cases hkc : kind == NameKind.cell <;> simp [hkc]) _ _ _ _ ?_)
  rw [show ({ s with heap := s.heap.push { cls := .type "dict", data := .dict #[] } } : Shared).heap.objs.size = s.heap.objs.size + 1 from Heap.size_push ..]
  rw [List.forIn_nil]
  exact wpAny_bind (wpAny_pure (wpAny_pure hQ))
abbrev Cx.cpC (X : Cx) (k : Str) (Nc : List Str) (scope : Scope) (cl : List (Str × Addr)) (C : Addr) (s₀ : Shared) (H₀ : Hp) (ex : List Addr) (pn : List (Addr × Obj)) : Cx :=
  { X with N := Nc, s₀ := s₀, H₀ := H₀, env := compEnvC scope ((k, C + 1) :: cl) C X.env, outer := X.stack, ex := ex, fn := fun y => y == k, pn := pn, xe := fun _ _ => False }
theorem pe_compC {X : Cx} {k : Str} {elt iter tg : Expr} {scope : Scope} {cl : List (Str × Addr)} {Nc : List Str} {js : List (Option Nat)} {wi : TI} {g : TG} {te : TE} {pos : Pos} (hc : X.calm = true) (hi : PI X tg iter wi)
    (hg : ∀ C s₀ H₀ ex pn, PG (X.cpC k Nc scope cl C s₀ H₀ ex pn) tg g) (he : ∀ C s₀ H₀ ex pn, PE (X.cpC k Nc scope cl C s₀ H₀ ex pn) elt te)
    (hlen : js.length = Nc.length) (hcl1 : ∀ y c, cl.lookup y = some c → X.env.cells.lookup y = some c) (hcl2 : ∀ y, ((relabel scope X.env).names.lookup y = some .cell ∨ (relabel scope X.env).names.lookup y = some .free) → y = k ∨ ∃ c, cl.lookup y = some c)
    (hjs : ∀ (i : Nat) (y : Str) (j : Nat), Nc[i]? = some y → js[i]? = some (some j) → X.N[j]? = some y ∧ Vis X.env.scope y ∧ X.env.kindOf y ≠ some .local ∧ y ≠ k ∧ ((relabel scope X.env).names.lookup y = some .cell ∨ (relabel scope X.env).names.lookup y = some .free) ∧ ∀ c, X.env.cells.lookup y = some c → cl.lookup y = some c)
    (hclos : closureFor scope X.env = pure cl) (hcf : ∀ a acc, cellsFrom a scope.names acc = (k, a) :: acc) (hpc : ∀ h, pushCells h scope.names = h.push { cls := .type "cell", data := .cell none }) (hkind : scope.kind = .function) (hnames : ∀ y ∈ scope.names, y.2 = .local → scope.names.lookup y.1 = some .local)
    (hs : ∀ x, foldedSetIterable iter X.env x = pure x := by intro _; rfl) : PCo X (.ListComp elt [⟨tg, iter, [], 0⟩] scope pos) scope iter (tComp js wi g te) := by
  intro pos0 use QQ pins s σ H Q I h fin
  refine wpAny_comprehension_free (use := use) rfl hs hclos hkind hnames (thn (hi pins s σ H _ I h) fun v s1 h1 => thn h1 fun itv s2 h2 => ?_)
  obtain ⟨it, fp, tn, J, H2, rfl, I2, T, st2, f2, R⟩ := h2
  refine wpAny_newObj_type (wpAny_newFunctionEnvC ?_)
  dsimp only
  rw [hcf, hpc]
  have hns : Heap.Ns (((s2.heap.push { cls := .type "list", dict := none, data := .seq ([] : List Value).toArray }).push { cls := .type "dict", data := .dict #[] }).push { cls := .type "cell", data := .cell none }) (s2.heap.push { cls := .type "list", dict := none, data := .seq ([] : List Value).toArray }).objs.size (fun _ => none) := (Heap.Ns.new (s2.heap.push { cls := .type "list", dict := none, data := .seq ([] : List Value).toArray }) (.type "dict")).keeps (fun b o e => Heap.get?_push_of_some _ e)
  have hold : ∀ b o, (s2.heap.push { cls := .type "list", dict := none, data := .seq ([] : List Value).toArray }).get? b = some o → (((s2.heap.push { cls := .type "list", dict := none, data := .seq ([] : List Value).toArray }).push { cls := .type "dict", data := .dict #[] }).push { cls := .type "cell", data := .cell none }).get? b = some o := fun b o z => Heap.get?_push_of_some _ (Heap.get?_push_of_some _ z)
  have hcel : (((s2.heap.push { cls := .type "list", dict := none, data := .seq ([] : List Value).toArray }).push { cls := .type "dict", data := .dict #[] }).push { cls := .type "cell", data := .cell none }).IsCell ((s2.heap.push { cls := .type "list", dict := none, data := .seq ([] : List Value).toArray }).objs.size + 1) none := by
    rw [← Heap.size_push (s2.heap.push { cls := .type "list", dict := none, data := .seq ([] : List Value).toArray }) { cls := .type "dict", data := .dict #[] }]
    exact ⟨_, Heap.get?_push_size _ rfl, rfl⟩
  generalize ((s2.heap.push { cls := .type "list", dict := none, data := .seq ([] : List Value).toArray }).push { cls := .type "dict", data := .dict #[] }).push { cls := .type "cell", data := .cell none } = h1 at hns hold hcel ⊢
  have hf : H2 s2.heap.objs.size = none := I2.hok.fresh (Nat.le_refl _)
  obtain ⟨W, ⟨m0, w0⟩, turn⟩ := R s2.heap.objs.size hf
  -- D: the list; C: the block's names
  generalize eD : s2.heap.objs.size = D at *
  have I3 : Inv X pins σ (upd H2 D (.lst [])) { s2 with heap := s2.heap.push { cls := .type "list", dict := none, data := .seq ([] : List Value).toArray } } :=
    I2.laid (t' := s2.toks) (fun b u e => Heap.get?_push_of_some _ e) (by rw [eD]; exact Nat.le_refl _) ⟨Nat.zero_le _, [], 0, .nil, by rw [← eD]; exact Heap.get?_push_size _ rfl⟩
  generalize e3 : ({ s2 with heap := s2.heap.push { cls := .type "list", dict := none, data := .seq ([] : List Value).toArray } } : Shared) = s3 at I3
  have hp3 : s2.heap.push { cls := .type "list", dict := none, data := .seq ([] : List Value).toArray } = s3.heap := by rw [← e3]
  rw [hp3] at hns hold hcel ⊢
  generalize eC : s3.heap.objs.size = C at *
  have old : ∀ b o, s3.heap.get? b = some o → h1.get? b = some o := hold
  have lk : ∀ y c, List.lookup y ((k, C + 1) :: cl) = some c → (y = k ∧ c = C + 1) ∨ (y ≠ k ∧ cl.lookup y = some c) := fun y c z => by
    rw [List.lookup_cons] at z
    by_cases q : y = k
    · rw [show (y == k) = true from beq_iff_eq.mpr q] at z
      cases z
      exact .inl ⟨q, rfl⟩
    · rw [show (y == k) = false from beq_eq_false_iff_ne.mpr q] at z
      exact .inr ⟨q, z⟩
  have lo : ∀ y c, cl.lookup y = some c → c < C := fun y c z => by
    obtain ⟨w', o, ho, hd⟩ := I3.cell y c (hcl1 y c z)
    rw [← eC]; exact Heap.lt_size ho
  have fpo : ∀ b ∈ fp, b < D := fun b hb => by
    obtain ⟨o, z, _⟩ := T.obj _ _ st2 b hb
    rw [← eD]; exact Heap.lt_size z
  have eCD : C = D + 1 := by rw [← eC, ← hp3, Heap.size_push, eD]
  have f3 : ∀ b ∈ fp, FpOk X pins (upd H2 D (.lst [])) b := fun b hb => ⟨by rw [upd_ne (Nat.ne_of_lt (fpo b hb))]; exact (f2 b hb).1, (f2 b hb).2⟩
  have okC : (X.cpC k Nc scope cl C s3 (upd H2 D (.lst [])) fp (X.pn ++ pins)).Ok := by
    have ok := I3.ok
    refine ⟨ok.mod, hkind, ok.glob, ok.blt, by rw [eC]; exact Nat.le_refl _, fun x y c a b => ?inj, fun x hx => ?has, fun x c z q => ?cab, ok.hd, ok.frames, .inl rfl, fun b hb => ?_, fun b o z => I3.bs b o z, Nat.le_trans ok.bsz I3.sz, fun b o z hb => ?_, fun b hb hm => ?_, I3.stack, I3.stkFree⟩
    case inj =>
      rcases lk x c a with ⟨e1, e2⟩ | ⟨n1, a'⟩
      · rcases lk y c b with ⟨e3, e4⟩ | ⟨n2, b'⟩
        · rw [e1, e3]
        · have := lo y c b'
          rw [e2] at this
          exact absurd this (Nat.not_lt.mpr (Nat.le_succ C))
      · rcases lk y c b with ⟨e3, e4⟩ | ⟨n2, b'⟩
        · have := lo x c a'
          rw [e4] at this
          exact absurd this (Nat.not_lt.mpr (Nat.le_succ C))
        · exact ok.inj x y c (hcl1 x c a') (hcl1 y c b')
    case has =>
      rcases hcl2 x hx with e | ⟨c, hc'⟩
      · exact ⟨C + 1, by show List.lookup x ((k, C + 1) :: cl) = _; rw [e, List.lookup_cons, show (k == k) = true from beq_iff_eq.mpr rfl]⟩
      · by_cases q : x = k
        · exact ⟨C + 1, by show List.lookup x ((k, C + 1) :: cl) = _; rw [q, List.lookup_cons, show (k == k) = true from beq_iff_eq.mpr rfl]⟩
        · exact ⟨c, by show List.lookup x ((k, C + 1) :: cl) = _; rw [List.lookup_cons, show (x == k) = false from beq_eq_false_iff_ne.mpr q]; exact hc'⟩
    case cab =>
      rcases lk x c q with ⟨e1, e2⟩ | ⟨n1, a'⟩
      · rw [e2, eC]; exact Nat.le_succ C
      · exact absurd (beq_iff_eq.mp z) n1
    · refine ⟨by show b ≠ C; rw [eCD]; exact Nat.ne_of_lt (Nat.lt_succ_of_lt (fpo b hb)), fun x c z => ?_⟩
      rcases lk x c z with ⟨e1, e2⟩ | ⟨n1, a'⟩
      · rw [e2, eCD]; exact Nat.ne_of_gt (Nat.lt_succ_of_lt (Nat.lt_succ_of_lt (fpo b hb)))
      · exact (f3 b hb).2.2.2.2.1 x c (hcl1 x c a')
    · rcases (f3 b hb).2.2.2.1 with y | y
      · exact ok.noex b o z y
      · exact absurd (Nat.lt_of_lt_of_le (Heap.lt_size z) (Nat.le_trans ok.bsz y)) (Nat.lt_irrefl _)
    · rcases List.mem_cons.mp (I3.stkSub b hm) with y | y
      · exact (f3 b hb).2.1 y
      · exact (f3 b hb).2.2.1 y
  have I4 : Inv (X.cpC k Nc scope cl C s3 (upd H2 D (.lst [])) fp (X.pn ++ pins)) [] (cσ js σ) (upd H2 D (.lst [])) { s2 with heap := h1 } := by
    have os3 : s2.os = s3.os := by rw [← e3]
    have fC : upd H2 D (.lst []) C = none := I3.hok.fresh (by rw [eC]; exact Nat.le_refl _)
    refine ⟨okC, os3, I2.bare, Un.kept old, ⟨_, hns, fun i y v e1 e2 e3' => ?_⟩, fun y c z => ?_, fC, fun y c z => ?frc, fun p hp => ?_, I3.hok.kept old, by rw [cσ, List.length_map]; exact hlen⟩
    · unfold cσ at e2
      rw [List.getElem?_map] at e2
      cases ej : js[i]? with
      | none => rw [ej] at e2; cases e2
      | some oj =>
        rw [ej] at e2
        cases oj with
        | none => cases e2
        | some j =>
          obtain ⟨a1, a2, a3, ak, a4, a5⟩ := hjs i y j e1 ej
          have e2' : (σ[j]?).join = some v := Option.some.inj e2
          have e4 : σ[j]? = some (some v) := by
            cases q : σ[j]? with
            | none => rw [q] at e2'; cases e2'
            | some o => rw [q] at e2'; exact congrArg some e2'
          obtain ⟨m, hn, hl⟩ := I3.loc
          obtain ⟨u, r, l⟩ := hl j y v a1 e4 a2
          refine ⟨u, r, .inr ⟨a4, ?_⟩⟩
          rcases l with ⟨kq, _⟩ | ⟨kq, c, z, ⟨o, ho, hd⟩⟩
          · exact absurd kq a3
          · exact ⟨c, by show List.lookup y ((k, C + 1) :: cl) = _; rw [List.lookup_cons, show (y == k) = false from beq_eq_false_iff_ne.mpr ak]; exact a5 c z, o, old _ _ ho, hd⟩
    case frc =>
      rcases lk y c z with ⟨e1, e2⟩ | ⟨n1, a'⟩
      · rw [e2]; exact I3.hok.fresh (by rw [eC]; exact Nat.le_succ C)
      · exact I3.freeC y c (hcl1 y c a')
    · rcases lk y c z with ⟨e1, e2⟩ | ⟨n1, a'⟩
      · rw [e2]; exact ⟨none, hcel⟩
      · obtain ⟨w', o, ho, hd⟩ := I3.cell y c (hcl1 y c a')
        exact ⟨w', o, old _ _ ho, hd⟩
    · have hp' : p ∈ X.pn ++ pins := by
        have z : p ∈ (X.pn ++ pins) ++ [] := hp
        rw [List.append_nil] at z; exact z
      obtain ⟨z, n, ne, nf, d⟩ := I3.pin p hp'
      refine ⟨old _ _ z, n, by rw [← eC]; exact Nat.ne_of_lt (Heap.lt_size z), fun hm => ?_, d⟩
      rcases List.mem_cons.mp (I3.stkSub p.1 hm) with y | y
      · exact ne y
      · exact nf y
  have st4 : tn 0 h1 := T.keep _ _ _ st2 fun b hb o z => old b o (by rw [← hp3]; exact Heap.get?_push_of_some _ z)
  have stat : ∀ {H' : Hp}, (∀ b ∈ fp, H' b = none) → ∀ b ∈ fp, FpOk (X.cpC k Nc scope cl C s3 (upd H2 D (.lst [])) fp (X.pn ++ pins)) [] H' b := fun hn b hb =>
    ⟨hn b hb, (okC.exf b hb).1, okC.exfs b hb, .inl hb, (okC.exf b hb).2 |> fun q x c z => q x c z, fun p hp => (f3 b hb).2.2.2.2.2 p (by
      have z : p ∈ (X.pn ++ pins) ++ [] := hp
      rw [List.append_nil] at z; exact z)⟩
  have loop : codeAny (model X.prog X.w) X.A (.compLoop (.ListComp elt [⟨tg, iter, [], 0⟩] scope pos) 0 (.ref it) (.ref D) (compEnvC scope ((k, C + 1) :: cl) C X.env)) (compPost (model X.prog X.w) X.A X.xe use QQ (.ref D) C) { s2 with heap := h1 } := by
    refine comp_loop (fun n s' => ∃ i ys σc H', Inv (X.cpC k Nc scope cl C s3 (upd H2 D (.lst [])) fp (X.pn ++ pins)) [] σc H' s' ∧ tn i s'.heap ∧ (∀ b ∈ fp, H' b = none) ∧ W i n ys σc H') ?_ m0 ⟨0, [], _, _, I4, st4, fun b hb => (f3 b hb).1, w0⟩
    rintro n s5 ⟨i, ys, σ5, H5, I5, st5, fr5, w5⟩
    rcases turn i n ys σ5 H5 w5 with ⟨hD, stop, qn⟩ | ⟨go, step⟩
    · refine thn (T.done (X.cpC k Nc scope cl C s3 (upd H2 D (.lst [])) fp (X.pn ++ pins)) rfl rfl rfl hc i [] s5 σ5 H5 _ I5 (stat fr5) st5 stop) fun r s6 ⟨hr, I6⟩ => ?_
      subst hr
      obtain ⟨mC, hnC, _⟩ := id I6.loc
      have I7 : Inv X pins σ H5 s6 := I3.call' (ch := fp) I6.os I6.base I6.hok I6.bare fun b hb => ⟨(f3 b hb).2.2.2.1, (f3 b hb).2.1, (f3 b hb).2.2.2.2.1, (f3 b hb).2.2.2.2.2⟩
      have nC : s3.heap.objs.size ≤ C := by rw [eC]; exact Nat.le_refl _
      exact fin D C H5 s6 mC I7 hnC (I3.fpOk nC I6.free) qn
    · refine thn (T.item (X.cpC k Nc scope cl C s3 (upd H2 D (.lst [])) fp (X.pn ++ pins)) rfl rfl rfl hc i [] s5 σ5 H5 _ I5 (stat fr5) st5 go) fun r s6 ⟨u, hr, h6⟩ => ?_
      subst hr
      refine thn h6 fun _ s7 ⟨x, H7, I7, r7, y7, st7, fr7⟩ => ?_
      have I7' := I7.pinned (stat fr7) (T.obj _ _ st7)
      refine thn (hg C s3 _ fp _ _ s7 σ5 H7 x u _ I7' r7 (step x H7 y7)) fun _ s8 ⟨σ8, H8, I8, q8⟩ => ?_
      refine thn (he C s3 _ fp _ _ s8 σ8 H8 _ I8 q8) fun v9 s9 ⟨y9, H9, I9, r9, hD9, hz9, m9, lt9, w9⟩ => ?_
      refine thn (mt_append (X := X.cpC k Nc scope cl C s3 (upd H2 D (.lst [])) fp (X.pn ++ pins)) _ s9 σ8 H9 (.ref D) [y9] (.ref D) [v9] (fun _ H10 => H10 = upd H9 D (.lst (ys ++ [y9]))) I9 rfl (.cons r9 .nil) ⟨D, ys, y9, rfl, rfl, hD9, hz9, rfl⟩) fun v10 s10 ⟨_, H10, I10, _, e10⟩ => ?_
      subst e10
      refine ⟨m9, lt9, i + 1, ys ++ [y9], σ8, _, I10.unpinned, T.keep _ _ _ st7 fun b hb o z => (I10.pin (b, o) (List.mem_append_right _ (List.mem_append_right _ (mem_pinsAt hb z)))).1, fun b hb => ?_, w9⟩
      obtain ⟨o, z, d⟩ := T.obj _ _ st7 b hb
      exact (I10.pin (b, o) (List.mem_append_right _ (List.mem_append_right _ (mem_pinsAt hb z)))).2.1
  exact codeAny_compStart_list loop (T.self X.A 0 _ _ _ st4 loop)
theorem pe_compCN {X : Cx} {elt iter tg : Expr} {scope : Scope} (k : Str) (fr : List (Str × Nat × Addr)) {wi : TI} {g : TG} {te : TE} {pos : Pos} (hc : X.calm = true) (hi : PI X tg iter wi)
    (hg : ∀ C s₀ H₀ ex pn, PG (X.cpC k ([k] ++ fr.map (·.1)) scope (fr.map fun p => (p.1, p.2.2)) C s₀ H₀ ex pn) tg g)
    (he : ∀ C s₀ H₀ ex pn, PE (X.cpC k ([k] ++ fr.map (·.1)) scope (fr.map fun p => (p.1, p.2.2)) C s₀ H₀ ex pn) elt te)
    (hclos : closureFor scope X.env = pure (fr.map fun p => (p.1, p.2.2))) (hall : FrOk X scope fr)
    (nd : (fr.map (·.1)).Nodup) (h1 : ∀ p ∈ scope.names, p.2 = .free → p.1 ∈ fr.map (·.1)) (h2 : ∀ p ∈ scope.names, p.2 = .cell → p.1 = k) (hkf : k ∉ fr.map (·.1))
    (hcf : ∀ a acc, cellsFrom a scope.names acc = (k, a) :: acc) (hpc : ∀ h, pushCells h scope.names = h.push { cls := .type "cell", data := .cell none }) (hkind : scope.kind = .function := by rfl)
    (hnames : ∀ y ∈ scope.names, y.2 = .local → scope.names.lookup y.1 = some .local := by decide +kernel)
    (hs : ∀ x, foldedSetIterable iter X.env x = pure x := by intro _; rfl) : PCo X (.ListComp elt [⟨tg, iter, [], 0⟩] scope pos) scope iter (tComp ([none] ++ fr.map fun p => some p.2.1) wi g te) := by
  refine pe_compC (k := k) (cl := fr.map fun p => (p.1, p.2.2)) (Nc := [k] ++ fr.map (·.1)) hc hi hg he (by simp) (fun z d h => ?_) (fun z h => ?_) (fun i z j' e1 e2 => ?_) hclos hcf hpc hkind hnames hs
  · obtain ⟨p, hp, rfl, rfl⟩ := look_fr h
    exact (hall.mem p hp).1
  · have m : ∃ q, (z, q) ∈ scope.names ∧ (q = .free ∨ q = .cell) := by
      have mm : ∀ q', (relabel scope X.env).names.lookup z = some q' → ∃ q, (z, q) ∈ scope.names ∧ (q = q' ∨ (q = .free ∧ q' = .cell)) := fun q' hq => by
        have := PySem.mem_of_lookup hq
        obtain ⟨⟨n0, k0⟩, hm, e⟩ := List.mem_map.mp this
        dsimp only at e
        split at e
        · rename_i hh
          cases e
          refine ⟨k0, hm, .inr ⟨?_, rfl⟩⟩
          simp at hh
          exact hh.1.1
        · cases e
          exact ⟨_, hm, .inl rfl⟩
      rcases h with h | h
      · obtain ⟨q, hm, e | ⟨e, _⟩⟩ := mm _ h
        · exact ⟨q, hm, .inr e⟩
        · exact ⟨q, hm, .inl e⟩
      · obtain ⟨q, hm, e | ⟨e, _⟩⟩ := mm _ h
        · exact ⟨q, hm, .inl e⟩
        · exact ⟨q, hm, .inl e⟩
    obtain ⟨q, hm, e | e⟩ := m
    · right
      obtain ⟨p, hp, e'⟩ := List.mem_map.mp (h1 _ hm e)
      have e' : p.1 = z := e'
      subst e'
      exact ⟨p.2.2, look_self nd p hp⟩
    · left
      exact h2 _ hm e
  · rcases i with _ | i
    · cases e2
    · have e1 : (fr.map (·.1))[i]? = some z := e1
      have e2 : (fr.map fun p => some p.2.1)[i]? = some (some j') := e2
      rw [List.getElem?_map] at e1 e2
      cases q : fr[i]? with
      | none => rw [q] at e1; cases e1
      | some p =>
        rw [q] at e1 e2
        have hp : p ∈ fr := List.mem_of_getElem? q
        have e1 : p.1 = z := by simpa using e1
        have e2 : p.2.1 = j' := by simpa using e2
        subst e1 e2
        obtain ⟨a1, a2, a3, a4⟩ := hall.mem p hp
        exact ⟨a2, .inr (.inl a3), by rw [a3]; exact (fun q => nomatch q), fun e => hkf (by rw [← e]; exact List.mem_map.mpr ⟨p, hp, rfl⟩), .inl a4, fun d h => by rw [a1] at h; cases h; exact look_self nd p hp⟩
end L2
namespace Mt
theorem det_addrows {n r : Nat} (a : Nat → Nat → Rat) (c : Nat → Rat) (hr : r < n) : ∀ m, m ≤ r → det n (sr a r fun j => a r j + Su (fun l => c l * a l j) m) = det n a
  | 0, _ => by
    have e : (fun j => a r j + Su (fun l => c l * a l j) 0) = a r := by funext j; rw [Su]; grind
    rw [e, sr_self]
  | m + 1, h => by
    rw [← det_addrows a c hr m (by omega), ← det_addrow (sr a r fun j => a r j + Su (fun l => c l * a l j) m) (c m) (r := r) (s := m) hr (by omega) (by omega)]
    refine det_congr fun i _ j _ => ?_
    unfold sr
    by_cases z : i = r
    · rw [if_pos z, if_pos z]
      dsimp only
      rw [if_pos rfl, if_neg (show ¬ m = r by omega), Su]
      grind
    · rw [if_neg z, if_neg z, if_neg z]
theorem det_tri {n : Nat} {a b : Nat → Nat → Rat} {T : Nat → Nat → Rat} (h : ∀ i, i < n → ∀ j, j < n → b i j = a i j + Su (fun l => T i l * a l j) i) : det n b = det n a := by
  have key : ∀ t, t ≤ n → det n (fun i j => if i < t then a i j else b i j) = det n b := fun t => by
    induction t with
    | zero => intro _; exact det_congr fun i _ j _ => by rw [if_neg (by omega)]
    | succ t ih =>
      intro ht
      rw [← ih (by omega), ← det_addrows (fun i j => if i < t + 1 then a i j else b i j) (T t) (r := t) (by omega) t (Nat.le_refl _)]
      refine det_congr fun i hi j hj => ?_
      unfold sr
      by_cases z : i = t
      · subst z
        rw [if_pos rfl, if_neg (show ¬ i < i by omega), h i hi j hj]
        dsimp only
        rw [if_pos (show i < i + 1 by omega)]
        congr 1
        exact Su_congr fun l hl => by rw [if_pos (show l < i + 1 by omega)]
      · rw [if_neg z]
        dsimp only
        by_cases y : i < t
        · rw [if_pos y, if_pos (by omega)]
        · rw [if_neg y, if_neg (by omega)]
  rw [← key n (Nat.le_refl _)]
  exact det_congr fun i hi j _ => by rw [if_pos hi]
def prF (f : Nat → Rat) : Nat → Rat
  | 0 => 1
  | n + 1 => prF f n * f n
theorem prF_front (f : Nat → Rat) : ∀ n, prF f (n + 1) = f 0 * prF (fun i => f (i + 1)) n
  | 0 => by show 1 * f 0 = f 0 * 1; grind
  | n + 1 => by rw [prF, prF_front f n, prF, Rat.mul_assoc]
theorem det_upper : ∀ {n : Nat} {b : Nat → Nat → Rat}, (∀ i, i < n → ∀ j, j < i → b i j = 0) → det n b = prF (fun i => b i i) n
  | 0, _, _ => rfl
  | n + 1, b, h => by
    rw [det_front fun i h0 hi => h i hi 0 h0, prF_front, det_upper fun i hi j hj => h (i + 1) (by omega) (j + 1) (by omega)]
theorem hankel {ms : List Rat} {p : Nat → List Rat} {n : Nat} (hp : ∀ i, i < n → Mo ms (p i) i) : det n (fun i j => cf ms (i + j)) = prF (fun i => lf ms (p i) i) n := by
  have e : det n (fun i j => lf ms (p i) j) = det n (fun i j => cf ms (i + j)) := det_tri (T := fun i l => cf (p i) l) fun i hi j _ => by
    rw [← (hp i hi).su j (show i < i + 1 by omega), Su, (hp i hi).top, Rat.one_mul, Rat.add_comm]
  rw [← e, det_upper fun i hi j hj => (hp i hi).orth j hj]
theorem hankel_shift {ms : List Rat} {q : List Rat} {n : Nat} (hq : Mo ms q (n + 1)) : det (n + 1) (fun i j => cf ms (i + j + 1)) = sg (n + 1) * (cf q 0 * det (n + 1) (fun i j => cf ms (i + j))) := by
  have e1 := det_addrows (n := n + 1) (r := n) (fun i j => cf ms (i + j + 1)) (fun l => cf q (l + 1)) (by omega) n (Nat.le_refl _)
  have e2 : det (n + 1) (sr (fun i j => cf ms (i + j + 1)) n fun j => cf ms (n + j + 1) + Su (fun l => cf q (l + 1) * cf ms (l + j + 1)) n) = det (n + 1) (sr (fun i j => cf ms (i + j + 1)) n fun j => (-cf q 0) * cf ms j) := det_congr fun i _ j hj => by
    unfold sr
    by_cases z : i = n
    · rw [if_pos z, if_pos z]
      have o := hq.orth j (by omega)
      rw [← hq.su j (show n + 1 < n + 1 + 1 by omega), Su_front, Su] at o
      have t : cf q (n + 1) = 1 := hq.top
      rw [t] at o
      have c : Su (fun k => cf q (k + 1) * cf ms (k + 1 + j)) n = Su (fun l => cf q (l + 1) * cf ms (l + j + 1)) n := Su_congr fun l _ => by rw [show l + 1 + j = l + j + 1 by omega]
      rw [c, show n + 1 + j = n + j + 1 by omega, show 0 + j = j by omega] at o
      grind
    · rw [if_neg z, if_neg z]
  rw [← e1, e2, det_scale (n + 1) n _ (fun j => cf ms j) (-cf q 0) (by omega)]
  have e3 := det_mv (n := n + 1) n (sr (fun i j => cf ms (i + j + 1)) n fun j => cf ms j) (by omega)
  have e4 : det (n + 1) (mv n (sr (fun i j => cf ms (i + j + 1)) n fun j => cf ms j)) = det (n + 1) (fun i j => cf ms (i + j)) := det_congr fun i hi j _ => by
    unfold mv sr
    by_cases z : i = 0
    · rw [if_pos z, if_pos rfl, z, Nat.zero_add]
    · rw [if_neg z, if_pos (by omega), if_neg (by omega)]
      show cf ms (i - 1 + j + 1) = cf ms (i + j)
      rw [show i - 1 + j + 1 = i + j by omega]
  rw [e4] at e3
  have s := sg_sq n
  have e5 : sg n * det (n + 1) (fun i j => cf ms (i + j)) = det (n + 1) (sr (fun i j => cf ms (i + j + 1)) n fun j => cf ms j) := by
    rw [e3, ← Rat.mul_assoc, s, Rat.one_mul]
  rw [← e5, sg_succ]
  grind
theorem prF_congr {f g : Nat → Rat} : ∀ {n : Nat}, (∀ i, i < n → f i = g i) → prF f n = prF g n
  | 0, _ => rfl
  | n + 1, h => by rw [prF, prF, prF_congr fun i hi => h i (by omega), h n (by omega)]
theorem prF_mul (f g : Nat → Rat) : ∀ n, prF (fun i => f i * g i) n = prF f n * prF g n
  | 0 => by show (1 : Rat) = 1 * 1; grind
  | n + 1 => by rw [prF, prF, prF, prF_mul f g n]; grind
theorem pr_prF (d : Nat → Rat) : ∀ n, pr d 0 n = prF d n
  | 0 => rfl
  | n + 1 => by rw [pr, prF, pr_prF d n, Nat.zero_add]
theorem prod_is (d : Nat → Rat) : ∀ n, prF (fun h => pw (d h) (n - h)) n = prF (fun i => pr d 0 i) (n + 1)
  | 0 => by show (1 : Rat) = 1 * 1; grind
  | n + 1 => by
    have r : prF (fun i => pr d 0 i) (n + 1 + 1) = prF (fun i => pr d 0 i) (n + 1) * pr d 0 (n + 1) := rfl
    have e : prF (fun h => pw (d h) (n + 1 - h)) (n + 1) = prF (fun h => pw (d h) (n - h) * d h) (n + 1) := prF_congr fun h hh => by rw [show n + 1 - h = (n - h) + 1 by omega, pw]
    rw [r, ← prod_is d n, pr_prF, e, prF_mul]
    congr 1
    rw [prF, Nat.sub_self, pw, Rat.mul_one]
end Mt
namespace K53
open PySem L2
theorem cx_K {CX : CXT} {P : Program} {w : World} {K : PySem.W.Frag} {mg : Str → Option Value} {base : Heap} {N : List Str} {qual : Str} {scope : Scope} {f : Addr} {cd : Value} {A : Around} {outer : List Env} {s : Shared} {H : Hp} {E : XK} : (cxOf CX P w K mg base N qual scope f cd A outer s H E).K = K := rfl
theorem cxU_K {CX : CXT} {P : Program} {w : World} {K : PySem.W.Frag} {mg : Str → Option Value} {base : Heap} {N : List Str} {qual : Str} {scope : Scope} {f : Addr} {cd : Value} {A : Around} {outer : List Env} {s : Shared} {H : Hp} {E : XK} : (cxU CX P w K mg base N qual scope f cd A outer s H E).K = K := rfl
local macro_rules | `(tactic| walk_at "rd") => `(tactic| simp [tSeq, tIfS, tTest, tB, tOp, rI, rI0, rEq, rNe, scal, tVar, tC, tCB, tCons, tNil, tNext, tRet, tRetN, L2.start, rIxL, rIxT, rFqI, tAsg, gName, tUn, rU, tNot, tNotV, tAnd, tOr, tAndV, tOrV, tIf, tTup, tLst, tCall, tCallS, tDrop, tForR, tForT, tForL, tForE, tForV, gTup, gCons, gNil, gSub, rSetL, tRaise, tTry, tH, Ends.gone, cσ, CPow, tCoR, tCoL, tCoT, tCoX, tForX, tExcInit, tFs, sXset, tXget, tRaiseI, tJoinRev, tChain, rAll, tHno, cx_K, cxU_K, rIn, tSl, tNoPart, tPart, rAppend, tBM, tForR2, tBM0, rClear, rReverse, tPar, tVs, tCoZ, tCoRH, tHE, tListRev, tForZ, tForVL, tForZL, tForK, tForD, sDPut, tDGet2, tDNewK, tDisp, tPairs, tCoLI, tCoRI, tCoKI, tAugS, ipI, rRep, tBreak])
def top (i : Nat) : Stmt := PySem.Challenge.pw_heightfractions_k53_whole_measures_are_p.main.body.getD i (.Pass ⟨0, 0, 0, 0⟩)
structure Tx (w : World) (K : PySem.W.Frag) (mg : Str → Option Value) (C_NOUGHT : Addr) (C_NoFraction : Addr) (C_NoWeights : Addr) (C_ONE : Addr) (C_TooFar : Addr) : Prop where
  b_abs : mg "abs" = none
  b_bool : mg "bool" = none
  b_int : mg "int" = none
  b_isinstance : mg "isinstance" = none
  b_len : mg "len" = none
  b_list : mg "list" = none
  b_min : mg "min" = none
  b_range : mg "range" = none
  b_tuple : mg "tuple" = none
  m_NOUGHT : mg "NOUGHT" = some (.ref C_NOUGHT)
  m_NoFraction : mg "NoFraction" = some (.ref C_NoFraction)
  m_NoWeights : mg "NoWeights" = some (.ref C_NoWeights)
  m_ONE : mg "ONE" = some (.ref C_ONE)
  m_TooFar : mg "TooFar" = some (.ref C_TooFar)
  nought : ∀ H, Fq K H C_NOUGHT 0
  one : ∀ H, Fq K H C_ONE 1
  x_NoWeights : ExcC K C_NoWeights
  x_TooFar : ExcC K C_TooFar
  g_MOST : ∃ t, mg "MOST_LEVELS" = some (.int 8 t)
  x_NoFraction : ExcC K C_NoFraction
theorem bd_ten60 {g : Int} : CDivB g 1000000000000000000000000000000000000000000000000000000000000 := ⟨by decide, Bd.mono (m := 200) (by show (_ : Nat) < _; decide) (by decide)⟩
def spCell (K : PySem.W.Frag) : Sp := fun vs H Q _ => ∃ (a : Addr) (ns : List Int) (k : Int), vs = [.ref a, .int k] ∧ SqL K H a (ns.map V.int) ∧ 0 ≤ k ∧ ∀ c : Int, Q (.int c) H
def spStir : Sp := fun vs H Q _ => ∃ (c k : Int), vs = [.int c, .int k] ∧ 0 ≤ k ∧ k ≤ 1000 ∧ ∀ d : Int, 0 ≤ d → d < 1000000000000000000000000000000000000000000000000000000000000 → Q (.int d) H
def spDrawn (K : PySem.W.Frag) : Sp := fun vs H Q _ => ∃ (a : Addr) (ns : List Int) (k : Int), vs = [.ref a, .int k] ∧ SqL K H a (ns.map V.int) ∧ 0 ≤ k ∧ k ≤ 1000 ∧ ∀ d : Int, 0 ≤ d → d < 1000000000000000000000000000000000000000000000000000000000000 → Q (.int d) H
def spGcd : Sp := fun vs H Q _ => ∃ (a b : Int), vs = [.int a, .int b] ∧ Q (.int (Int.gcd a b : Nat)) H
def spWhole : Sp := fun vs H Q _ => ∃ (a : Int), vs = [.int a] ∧ Q (.bl true) H
def spLow : Sp := fun vs H Q _ => ∃ (t b : Int), vs = [.int t, .int b] ∧ 0 < b ∧ Bd 9000 b ∧ ∀ p, H p = none → Q (.ref p) (upd H p (frO (Rat.divInt t b)))
def spBin (K : PySem.W.Frag) (f : Rat → Rat → Rat) : Sp := fun vs H Q _ => ∃ (p q : Addr) (a b : Rat), vs = [.ref p, .ref q] ∧ Fq K H p a ∧ Fq K H q b ∧ Sz 4000 a ∧ Sz 4000 b ∧ ∀ r H', Same H H' → H r = none → H' r = some (frO (f a b)) → Q (.ref r) H'
def spIsFq (K : PySem.W.Frag) : Sp := fun vs H Q _ => ∃ (p : Addr) (q : Rat), vs = [.ref p] ∧ Fq K H p q ∧ Q (.bl true) H
def Wt (K : PySem.W.Frag) (H : Hp) (p : Addr) (L D : List Rat) : Prop := ∃ a b, SqT K H p [.ref a, .ref b] ∧ Pl K H a L ∧ Pl K H b D
theorem Wt.same {K : PySem.W.Frag} {H H' : Hp} {p : Addr} {L D : List Rat} (h : Wt K H p L D) (s : Same H H') : Wt K H' p L D := let ⟨a, b, h0, h1, h2⟩ := h; ⟨a, b, s.seqT h0, h1.same s, h2.same s⟩
structure Ws (L D : List Rat) : Prop where
  l : ∀ q ∈ L, Mt.Wg q
  d : ∀ q ∈ D, Mt.Wg q
  n : L.length = D.length + 1
  m : D.length ≤ 7
theorem lat_sz {D N m : Nat} {q : Rat} (h : Mt.Lat D N q) (hD : 0 < D) (h1 : D < 2 ^ m) (h2 : N < 2 ^ m) : Sz m q := by
  have e := h.dvd (by omega)
  have l := Nat.le_of_dvd hD e.1
  exact ⟨show (_ : Nat) < _ by omega, show (_ : Nat) < _ by show ((q.den : Int)).natAbs < _; omega⟩
theorem gd_le {n : Nat} (h : n ≤ 32) : Mt.B0 ^ n < 2 ^ 1290 ∧ 8 * (Mt.W0 ^ n * Mt.B0 ^ n) < 2 ^ 1290 := by
  have a : Mt.B0 ^ n ≤ Mt.B0 ^ 32 := Nat.pow_le_pow_right (by decide) h
  have b : Mt.W0 ^ n ≤ Mt.W0 ^ 32 := Nat.pow_le_pow_right (by decide) h
  have c : Mt.B0 ^ 32 < 2 ^ 1290 := by decide +kernel
  have d : 8 * (Mt.W0 ^ 32 * Mt.B0 ^ 32) < 2 ^ 1290 := by decide +kernel
  exact ⟨Nat.lt_of_le_of_lt a c, Nat.lt_of_le_of_lt (Nat.mul_le_mul_left _ (Nat.mul_le_mul b a)) d⟩
theorem gd_sz {n : Nat} {q : Rat} (h : Mt.Gd n q) (hn : n ≤ 32) : Sz 1300 q := (lat_sz (m := 1290) h (Nat.pow_pos (by decide)) (gd_le hn).1 (by have := (gd_le hn).2; omega)).mono (by decide)
theorem wg_sz {q : Rat} (h : Mt.Wg q) : Sz 1300 q := (lat_sz (m := 100) h (by decide) (by decide) (by decide)).mono (by decide)
theorem Ws.sL {L D : List Rat} (h : Ws L D) (n : Nat) : Sz 1300 (Mt.cf L n) := wg_sz (Mt.wg_cf h.l n)
theorem Ws.sD {L D : List Rat} (h : Ws L D) (n : Nat) : Sz 1300 (Mt.cf D n) := wg_sz (Mt.wg_cf h.d n)
theorem Ws.sm {L D : List Rat} (h : Ws L D) {n : Nat} (hn : n ≤ 32) (top i j : Nat) : Sz 1300 (Mt.sm (Mt.cf L) (Mt.cf D) top i n j) := gd_sz (Mt.gd_sm (Mt.wg_cf h.l) (Mt.wg_cf h.d) n j) hn
def bdOf (k : Nat) : V → Nat
  | .int b => min (k + 1) b.toNat
  | _ => k + 1
def lowOf (k : Nat) : V → Bool
  | .int b => decide (b ≤ (k : Int) + 1)
  | _ => false
def tooFar (k n i j : Nat) (bl : V) : Bool := !lowOf k bl && decide (2 * k + 1 < n + i + j)
def okB (bl : V) : Prop := bl = .non ∨ ∃ b : Nat, bl = .int b
def spWof (K : PySem.W.Frag) (C : Addr) : Sp := fun vs H Q E => ∃ (D1 D2 : Addr) (x1 x2 : List V) (f1 f2 : List Rat), vs = [.ref D1, .ref D2] ∧ H D1 = some (.lst x1) ∧ H D2 = some (.lst x2) ∧ Frs K H f1 x1 ∧ Frs K H f2 x2 ∧
  (¬ (f1.length = f2.length + 1 ∧ f1.length ≤ 8) → E (.ref C) none H) ∧ (f1.length = f2.length + 1 → f1.length ≤ 8 → ∀ w H', Same H H' → Wt K H' w f1 f2 → Q (.ref w) H')
def spHof (K : PySem.W.Frag) : Sp := fun vs H Q _ => ∃ (w : Addr) (L D : List Rat), vs = [.ref w] ∧ Wt K H w L D ∧ Q (.int D.length) H
def spReach (K : PySem.W.Frag) (C : Addr) : Sp := fun vs H Q E => ∃ (w : Addr) (L D : List Rat) (n i j : Nat) (bl : V), vs = [.ref w, .int n, .int i, .int j, bl] ∧ Wt K H w L D ∧ okB bl ∧ (tooFar D.length n i j bl = true → E (.ref C) none H) ∧ (tooFar D.length n i j bl = false → Q .non H)
def spStepOn (K : PySem.W.Frag) : Sp := fun vs H Q _ => ∃ (w S : Addr) (L D f : List Rat) (xs : List V), vs = [.ref w, .ref S] ∧ Wt K H w L D ∧ H S = some (.lst xs) ∧ Frs K H f xs ∧ f.length ≤ L.length ∧ f.length ≤ D.length + 1 ∧ f.length ≤ 100 ∧
  (∀ h, Sz 1300 (Mt.cf f h)) ∧ (∀ h, Sz 1300 (Mt.cf L h)) ∧ (∀ h, Sz 1300 (Mt.cf D h)) ∧
  ∀ S' H' ys, Same H H' → H S' = none → H' S' = some (.lst ys) → Frs K H' ((List.range f.length).map fun h => Mt.wk (Mt.cf L) (Mt.cf D) (Mt.cf f) f.length h) ys → Q (.ref S') H'
def spStepped (K : PySem.W.Frag) : Sp := fun vs H Q _ => ∃ (w : Addr) (L D : List Rat) (n i j : Nat) (bl : V), vs = [.ref w, .int n, .int i, .int j, bl] ∧ Wt K H w L D ∧ Ws L D ∧ okB bl ∧ n ≤ 31 ∧ tooFar D.length n i j bl = false ∧
  (∀ r H', Same H H' → Fq K H' r (Mt.sm (Mt.cf L) (Mt.cf D) (bdOf D.length bl) i n j) → Q (.ref r) H')
def spFraction (C : Addr) : Sp := fun vs H Q E => ∃ (t b : Int), vs = [.int t, .int b] ∧ Bd 9000 b ∧ (b = 0 → E (.ref C) none H) ∧ (b ≠ 0 → ∀ p u v, H p = none → Mt.Red t b u v → Q (.ref p) (upd H p (.tup [.int u, .int v])))
def IRows (K : PySem.W.Frag) (H : Hp) (D : Addr) (m n : Nat) (R : Nat → Nat → Int) : Prop := ∃ rs, H D = some (.lst rs) ∧ rs.length = m ∧ ∀ i, i < m → ∃ p, rs[i]? = some (.ref p) ∧ SqL K H p ((List.range n).map fun j => V.int (R i j))
def FRows (K : PySem.W.Frag) (H : Hp) (D : Addr) (m n : Nat) (F : Nat → Nat → Rat) : Prop := ∃ rs, SqL K H D rs ∧ rs.length = m ∧ ∀ i, i < m → ∃ p ys, rs[i]? = some (.ref p) ∧ SqL K H p ys ∧ Frs K H ((List.range n).map fun j => F i j) ys
def spFold (K : PySem.W.Frag) : Sp := fun vs H Q _ => ∃ (h r : Addr) (b : Int) (m : Nat) (u v : Nat → Int), vs = [.ref h, .ref r, .int b] ∧ SqL K H h ((List.range (m + 1)).map fun j => V.int (u j)) ∧ SqL K H r ((List.range (m + 1)).map fun j => V.int (v j)) ∧ m ≤ 20 ∧ b ≠ 0 ∧ Bd 9000 b ∧ (∀ j, j < m + 1 → Bd 9000 (u j)) ∧ (∀ j, j < m + 1 → Bd 9000 (v j)) ∧
  ∀ D H', Same H H' → H D = none → H' D = some (.lst ((List.range m).map fun j => V.int ((u 0 * v (j + 1) - v 0 * u (j + 1)).fdiv b))) → Q (.ref D) H'
def spShBot (K : PySem.W.Frag) : Sp := fun vs H Q _ => ∃ (a : Addr) (xs : List V) (f : List Rat) (Dm : Nat), vs = [.ref a] ∧ SqL K H a xs ∧ Frs K H f xs ∧ 0 < Dm ∧ Dm ≤ 2 ^ 8900 ∧ (∀ j, j < f.length → (Mt.cf f j).den ∣ Dm) ∧ f.length ≤ 100 ∧ ∀ b : Nat, 0 < b → (∀ j, j < f.length → (Mt.cf f j).den ∣ b) → b ∣ Dm → Q (.int b) H
def spWM (K : PySem.W.Frag) : Sp := fun vs H Q _ => ∃ (D : Addr) (n X : Nat) (A : Nat → Nat → Int), vs = [.ref D] ∧ IRows K H D n n A ∧ n ≤ 8 ∧ (∀ i j, (A i j).natAbs ≤ X) ∧ Mt.fact n * X ^ n < 2 ^ 9000 ∧ 1 ≤ X ∧ ∀ (z : Int) H', Same H H' → (z : Rat) = Mt.det n (Mt.arI A) → Q (.int z) H'
def spMeas (K : PySem.W.Frag) : Sp := fun vs H Q _ => ∃ (TB : Addr) (n : Nat) (F : Nat → Nat → Rat) (N d : Nat), vs = [.ref TB] ∧ FRows K H TB n n F ∧ n ≤ 8 ∧ (∀ i, i < n → ∃ Di : Nat, 0 < Di ∧ Di ≤ 2 ^ d ∧ ∀ j, j < n → Mt.Lat Di N (F i j)) ∧ d * n ≤ 8900 ∧ d ≤ 8900 ∧ 1 ≤ N ∧ Mt.fact n * N ^ n < 2 ^ 9000 ∧ ∀ p H', Same H H' → H p = none → H' p = some (frO (Mt.det n F)) → Q (.ref p) H'
theorem rat_back (q : Rat) : q * ((q.den : Int) : Rat) = ((q.num : Int) : Rat) := by
  have d0 : ((q.den : Int) : Rat) ≠ 0 := fun y => by
    have : (q.den : Int) = 0 := by exact_mod_cast y
    have := q.den_pos
    omega
  have e := Rat.num_divInt_den q
  rw [Rat.divInt_eq_div] at e
  generalize ((q.den : Int) : Rat) = d at *
  generalize ((q.num : Int) : Rat) = n at *
  grind
def spLap (K : PySem.W.Frag) (sz : Nat) : Sp := fun vs H Q _ => ∃ (n : Nat), n < sz ∧ ∃ (TB : Addr) (F : Nat → Nat → Rat) (Dr : Nat → Nat) (N d : Nat), vs = [.ref TB] ∧ FRows K H TB n n F ∧ n ≤ 5 ∧ (∀ i, i < n → ∀ j, j < n → Mt.Lat (Dr i) N (F i j)) ∧ (∀ i, 0 < Dr i ∧ Dr i ≤ 2 ^ d) ∧ N ≤ 2 ^ d ∧ d * n ≤ 3800 ∧ ∀ p H', Same H H' → Fq K H' p (Mt.det n F) → Q (.ref p) H'
def FTab (K : PySem.W.Frag) (H : Hp) (D : Addr) (m n : Nat) (F : Nat → Nat → Rat) : Prop := ∃ rs, H D = some (.lst rs) ∧ rs.length = m ∧ ∀ i, i < m → ∃ p ys, rs[i]? = some (.ref p) ∧ p ≠ D ∧ H p = some (.lst ys) ∧ Frs K H ((List.range n).map fun j => F i j) ys
theorem FTab.same {K : PySem.W.Frag} {H H' : Hp} {D : Addr} {m n : Nat} {F : Nat → Nat → Rat} (h : FTab K H D m n F) (s : Same H H') : FTab K H' D m n F := by
  obtain ⟨rs, h1, l, r⟩ := h
  refine ⟨rs, s _ _ h1, l, fun i hi => ?_⟩
  obtain ⟨p, ys, e, ne, hp, f⟩ := r i hi
  exact ⟨p, ys, e, ne, s _ _ hp, f.same s⟩
theorem FTab.rows {K : PySem.W.Frag} {H : Hp} {D : Addr} {m n : Nat} {F : Nat → Nat → Rat} (h : FTab K H D m n F) : FRows K H D m n F := by
  obtain ⟨rs, h1, l, r⟩ := h
  refine ⟨rs, SqL.of h1, l, fun i hi => ?_⟩
  obtain ⟨p, ys, e, _, hp, f⟩ := r i hi
  exact ⟨p, ys, e, SqL.of hp, f⟩
theorem FTab.set {K : PySem.W.Frag} {H : Hp} {D l : Addr} {m n i : Nat} {F : Nat → Nat → Rat} {rs ys : List V} {v : Nat → Rat} (h : FTab K H D m n F) (hD : H D = some (.lst rs)) (hi : i < m) (hl : H l = some (.lst ys)) (ne : l ≠ D) (fv : Frs K H ((List.range n).map v) ys) : FTab K (upd H D (.lst (rs.set i (.ref l)))) D m n (Mt.sr F i v) := by
  obtain ⟨rs', h1, lr, r⟩ := h
  rw [hD] at h1
  cases h1
  refine ⟨_, upd_same, by simp [lr], fun j hj => ?_⟩
  by_cases z : j = i
  · subst z
    refine ⟨l, ys, by rw [List.getElem?_set, if_pos rfl, if_pos (by omega)], ne, by rw [upd_ne ne]; exact hl, ?_⟩
    have e : ((List.range n).map fun c => Mt.sr F j v j c) = (List.range n).map v := List.map_congr_left fun c _ => by unfold Mt.sr; rw [if_pos rfl]
    rw [e]
    exact Frs.updL hD fv
  · obtain ⟨p, zs, e, np, hp, f⟩ := r j hj
    refine ⟨p, zs, by rw [List.getElem?_set, if_neg (Ne.symm z)]; exact e, np, by rw [upd_ne np]; exact hp, ?_⟩
    have e : ((List.range n).map fun c => Mt.sr F i v j c) = (List.range n).map fun c => F j c := List.map_congr_left fun c _ => by unfold Mt.sr; rw [if_neg z]
    rw [e]
    exact Frs.updL hD f
theorem wh_step {c : TT} {tb : TS} {D : Ends} {σ : St} {H : Hp} (Pv : St → Hp → Prop) (μ : St → Hp → Nat) (h0 : Pv σ H) (h : ∀ σ H, Pv σ H → ∀ N : St → Hp → Prop, (∀ σ' H', tb { D with nx := fun σ2 H2 => Pv σ2 H2 ∧ μ σ2 H2 < μ σ H, ct := fun σ2 H2 => Pv σ2 H2 ∧ μ σ2 H2 < μ σ H, bk := D.nx } σ' H' → N σ' H') → c σ H fun b H1 => if b = true then N σ H1 else D.nx σ H1) : WH c tb D σ H :=
  ⟨Pv, μ, h0, fun σ H p => h σ H p _ fun _ _ z => z⟩
theorem if_step {c : TT} {tb te : TS} {D : Ends} {σ : St} {H : Hp} (h : ∀ N : St → Hp → Prop, (∀ σ H, tb D σ H → N σ H) → tIfS c (fun _ σ H => N σ H) te D σ H) : tIfS c tb te D σ H := h (tb D) fun _ _ z => z
theorem at_range {n j : Nat} (F : Nat → V) (h : j < n) : ((List.range n).map F)[j]? = some (F j) := by simp [h]
theorem rp_ln {L D : List Rat} (h : Ws L D) {n : Nat} (hn : n ≤ 9) : Mt.Ln 320 320 (Mt.rp L D n) := (Mt.gp_rp (Mt.wg_cf h.l) (Mt.wg_cf h.d) n).ln hn
theorem Frs.reverse {K : PySem.W.Frag} {H : Hp} : ∀ {f : List Rat} {xs : List V}, L2.Frs K H f xs → L2.Frs K H f.reverse xs.reverse
  | [], xs, h => by
    have := h.len
    cases xs with
    | nil => exact L2.Frs.nil
    | cons _ _ => simp at this
  | q :: f, xs, h => by
    obtain ⟨p, ys, rfl, hq, hf⟩ := h.uncons
    rw [List.reverse_cons, List.reverse_cons]
    exact L2.Frs.snoc (Frs.reverse hf) hq
def momL (L D : List Rat) : List Rat := (List.range (2 * D.length + 2)).map fun n => Mt.sm (Mt.cf L) (Mt.cf D) (D.length + 1) 0 n 0
theorem momL_len (L D : List Rat) : (momL L D).length = 2 * D.length + 2 := by simp [momL]
theorem momL_at {L D : List Rat} {n : Nat} (h : n < 2 * D.length + 2) : Mt.cf (momL L D) n = Mt.sm (Mt.cf L) (Mt.cf D) (D.length + 1) 0 n 0 := by rw [momL, Mt.cf_map_range, if_pos h]
def spMoments (K : PySem.W.Frag) : Sp := fun vs H Q _ => ∃ (w : Addr) (L D : List Rat), vs = [.ref w] ∧ Wt K H w L D ∧ Ws L D ∧ ∀ S H' ys, Same H H' → H S = none → H' S = some (.lst ys) → Frs K H' (momL L D) ys → Q (.ref S) H'
def RowsAt (K : PySem.W.Frag) (H : Hp) (D : Addr) (F : Nat → List Rat) (m : Nat) : Prop := ∃ zs, H D = some (.lst zs) ∧ zs.length = m ∧ ∀ j, j < m → ∃ p ys, zs[j]? = some (V.ref p) ∧ H p = some (.lst ys) ∧ Frs K H (F j) ys ∧ p ≠ D
theorem RowsAt.same {K : PySem.W.Frag} {H H' : Hp} {D : Addr} {F : Nat → List Rat} {m : Nat} (h : RowsAt K H D F m) (s : Same H H') : RowsAt K H' D F m := by
  obtain ⟨zs, hz, lz, r⟩ := h
  exact ⟨zs, s _ _ hz, lz, fun j hj => let ⟨p, ys, e, h, f, n⟩ := r j hj; ⟨p, ys, e, s _ _ h, f.same s, n⟩⟩
theorem RowsAt.more {K : PySem.W.Frag} {H : Hp} {D R : Addr} {F : Nat → List Rat} {m : Nat} {zs ys : List V} (hz : H D = some (.lst zs)) (lz : zs.length = m) (r : ∀ j, j < m → ∃ p ys, zs[j]? = some (V.ref p) ∧ H p = some (.lst ys) ∧ Frs K H (F j) ys ∧ p ≠ D) (hR : H R = some (.lst ys)) (fR : Frs K H (F m) ys) (ne : R ≠ D) :
    RowsAt K (upd H D (.lst (zs ++ [.ref R]))) D F (m + 1) := by
  refine ⟨_, upd_same, by simp [lz], fun j hj => ?_⟩
  rcases Nat.lt_or_ge j m with y | y
  · obtain ⟨p, us, e, h, f, n⟩ := r j y
    exact ⟨p, us, by rw [List.getElem?_append_left (by omega)]; exact e, by rw [upd_ne n]; exact h, Frs.updL hz f, n⟩
  · obtain rfl : j = m := by omega
    exact ⟨R, ys, by rw [List.getElem?_append_right (by omega), lz]; simp, by rw [upd_ne ne]; exact hR, Frs.updL hz fR, ne⟩
def spWb2 : Sp := fun vs H Q _ => ∃ (c w : Int), vs = [.int c, .int w] ∧ ∀ p q, H p = none → Mt.Wg q → Q (.ref p) (upd H p (frO q))
def spRowBy (K : PySem.W.Frag) : Sp := fun vs H Q _ => ∃ (D1 D2 : Addr) (x1 x2 : List V) (L D : List Rat), vs = [.ref D1, .ref D2] ∧ H D1 = some (.lst x1) ∧ H D2 = some (.lst x2) ∧ Frs K H L x1 ∧ Frs K H D x2 ∧ Ws L D ∧ ∀ A H', Same H H' → H A = none → RowsAt K H' A (Mt.rp L D) (L.length + 1) → Q (.ref A) H'
def fr1 (L D : List Rat) (h c d : Nat) : List Rat := (List.range (h + 2)).map fun j => Mt.sh (Mt.rp L D h) 1 j - (if j < c then Mt.cf L h * Mt.cf (Mt.rp L D h) j else 0) - (if j < d then Mt.cf D (h - 1) * Mt.cf (Mt.rp L D (h - 1)) j else 0)
theorem fr1_len (L D : List Rat) (h c d : Nat) : (fr1 L D h c d).length = h + 2 := by simp [fr1]
theorem fr1_start (L D : List Rat) (h : Nat) : fr1 L D h 0 0 = 0 :: Mt.rp L D h := by
  refine List.ext_getElem (by rw [fr1_len, List.length_cons, Mt.rp_len]) fun j h1 h2 => ?_
  rw [k21_get h1, k21_get h2, fr1, Mt.cf_map_range, if_pos (by rw [fr1_len] at h1; exact h1), if_neg (by omega), if_neg (by omega)]
  rcases j with _ | j
  · rw [Mt.sh, if_neg (by omega), Mt.cf_zero]; grind
  · rw [Mt.sh, if_pos (by omega), Mt.cf_succ, Nat.add_sub_cancel]; grind
where
  k21_get {l : List Rat} {i : Nat} (h : i < l.length) : l[i] = Mt.cf l i := by
    unfold Mt.cf
    rw [List.getD_eq_getElem?_getD, List.getElem?_eq_getElem h]
    rfl
theorem fr1_end (L D : List Rat) (h : Nat) : fr1 L D h (h + 1) (if h = 0 then 0 else h) = Mt.rp L D (h + 1) := by
  refine List.ext_getElem (by rw [fr1_len, Mt.rp_len]) fun j h1 h2 => ?_
  rw [fr1_start.k21_get h1, fr1_start.k21_get h2, fr1, Mt.cf_map_range, if_pos (by rw [fr1_len] at h1; exact h1)]
  have e1 : (if j < h + 1 then Mt.cf L h * Mt.cf (Mt.rp L D h) j else 0) = Mt.cf L h * Mt.cf (Mt.rp L D h) j := by
    split
    · rfl
    · rw [Mt.cf_ge (l := Mt.rp L D h) (by rw [Mt.rp_len]; omega), Rat.mul_zero]
  rw [e1]
  rcases h with _ | h
  · rw [if_neg (by simp), Mt.rp_one_rec]
    grind
  · rw [if_neg (show ¬ h + 1 = 0 by omega), Nat.add_sub_cancel]
    have e2 : (if j < h + 1 then Mt.cf D h * Mt.cf (Mt.rp L D h) j else 0) = Mt.cf D h * Mt.cf (Mt.rp L D h) j := by
      split
      · rfl
      · rw [Mt.cf_ge (l := Mt.rp L D h) (by rw [Mt.rp_len]; omega), Rat.mul_zero]
    rw [e2, show h + 1 + 1 = h + 2 from rfl, Mt.rp_rec]
theorem set_map {F G : Nat → Rat} {n c : Nat} (hc : c < n) (h : ∀ j, j ≠ c → F j = G j) : ((List.range n).map F).set c (G c) = (List.range n).map G := by
  refine List.ext_getElem (by simp) fun j h1 h2 => ?_
  simp only [List.getElem_set, List.getElem_map, List.getElem_range]
  split
  · rename_i e; rw [e]
  · rename_i e; exact h j (fun z => e z.symm)
theorem fr1_at {L D : List Rat} {h c d j : Nat} (hj : j < h + 2) : Mt.cf (fr1 L D h c d) j = Mt.sh (Mt.rp L D h) 1 j - (if j < c then Mt.cf L h * Mt.cf (Mt.rp L D h) j else 0) - (if j < d then Mt.cf D (h - 1) * Mt.cf (Mt.rp L D (h - 1)) j else 0) := by rw [fr1, Mt.cf_map_range, if_pos hj]
theorem fr1_set1 (L D : List Rat) {h c : Nat} (hc : c < h + 2) : (fr1 L D h c 0).set c (Mt.cf (fr1 L D h c 0) c - Mt.cf L h * Mt.cf (Mt.rp L D h) c) = fr1 L D h (c + 1) 0 := by
  have e : Mt.cf (fr1 L D h c 0) c - Mt.cf L h * Mt.cf (Mt.rp L D h) c = Mt.sh (Mt.rp L D h) 1 c - (if c < c + 1 then Mt.cf L h * Mt.cf (Mt.rp L D h) c else 0) - (if c < 0 then Mt.cf D (h - 1) * Mt.cf (Mt.rp L D (h - 1)) c else 0) := by
    rw [fr1_at hc, if_neg (show ¬ c < c by omega), if_pos (show c < c + 1 by omega), if_neg (show ¬ c < 0 by omega)]; grind
  rw [e, fr1, fr1]
  refine set_map (G := fun j => Mt.sh (Mt.rp L D h) 1 j - (if j < c + 1 then Mt.cf L h * Mt.cf (Mt.rp L D h) j else 0) - (if j < 0 then Mt.cf D (h - 1) * Mt.cf (Mt.rp L D (h - 1)) j else 0)) hc fun j hj => ?_
  by_cases y : j < c
  · rw [if_pos y, if_pos (show j < c + 1 by omega)]
  · rw [if_neg y, if_neg (show ¬ j < c + 1 by omega)]
theorem fr1_set2 (L D : List Rat) {h c d : Nat} (hd : d < h + 2) : (fr1 L D h c d).set d (Mt.cf (fr1 L D h c d) d - Mt.cf D (h - 1) * Mt.cf (Mt.rp L D (h - 1)) d) = fr1 L D h c (d + 1) := by
  have e : Mt.cf (fr1 L D h c d) d - Mt.cf D (h - 1) * Mt.cf (Mt.rp L D (h - 1)) d = Mt.sh (Mt.rp L D h) 1 d - (if d < c then Mt.cf L h * Mt.cf (Mt.rp L D h) d else 0) - (if d < d + 1 then Mt.cf D (h - 1) * Mt.cf (Mt.rp L D (h - 1)) d else 0) := by
    rw [fr1_at hd, if_neg (show ¬ d < d by omega), if_pos (show d < d + 1 by omega)]; grind
  rw [e, fr1, fr1]
  refine set_map (G := fun j => Mt.sh (Mt.rp L D h) 1 j - (if j < c then Mt.cf L h * Mt.cf (Mt.rp L D h) j else 0) - (if j < d + 1 then Mt.cf D (h - 1) * Mt.cf (Mt.rp L D (h - 1)) j else 0)) hd fun j hj => ?_
  by_cases y : j < d
  · rw [if_pos y, if_pos (show j < d + 1 by omega)]
  · rw [if_neg y, if_neg (show ¬ j < d + 1 by omega)]
def spLaw (K : PySem.W.Frag) : Sp := fun vs H Q _ => ∃ (a : Addr) (ns : List Int), vs = [.ref a] ∧ SqL K H a (ns.map V.int) ∧ ns.length ≤ 63 ∧ ∀ H', Q (.bl true) H'
def tab (ms : List Rat) (size sh : Nat) : List (List Rat) := (List.range size).map fun i => (ms.drop (i + sh)).take size
def bad (ms : List Rat) (size sh : Nat) : Prop := 0 < size ∧ ms.length ≤ 2 * (size - 1) + sh
def TabAt (K : PySem.W.Frag) (H0 H : Hp) (D : Addr) (ms : List Rat) (size sh : Nat) : Prop := Same H0 H ∧ H0 D = none ∧ ∃ zs, H D = some (.lst zs) ∧ Fls K H (tab ms size sh) zs ∧ zs.length = size ∧ ∀ p, V.ref p ∈ zs → p ≠ D ∧ H0 p = none
def spTable (K : PySem.W.Frag) (C : Addr) : Sp := fun vs H Q E => ∃ (m : Addr) (xs : List V) (ms : List Rat) (size sh : Nat), vs = [.ref m, .int size, .int sh] ∧ SqL K H m xs ∧ Frs K H ms xs ∧ size ≤ 20 ∧ sh ≤ 20 ∧ ms.length ≤ 100 ∧
  (bad ms size sh → E (.ref C) none H) ∧ (¬ bad ms size sh → ∀ D H', TabAt K H H' D ms size sh → Q (.ref D) H')
theorem cut_in {ms : List Rat} {xs : List V} {K : PySem.W.Frag} {H : Hp} {size sh i : Nat} (f : Frs K H ms xs) (hi : i < size) (nb : ¬ bad ms size sh) : Frs K H ((ms.drop (i + sh)).take size) (cutV xs (some ((i : Int) + (sh : Int))) (some ((i : Int) + (sh : Int) + (size : Int)))) := by
  have lx := f.len
  have l : i + sh + size ≤ xs.length := by
    have : ¬ (ms.length ≤ 2 * (size - 1) + sh) := fun y => nb ⟨by omega, y⟩
    omega
  have e := cutV_mid xs (i + sh) (i + sh + size) (by omega) l
  rw [show ((i + sh : Nat) : Int) = (i : Int) + (sh : Int) by omega, show ((i + sh + size : Nat) : Int) = (i : Int) + (sh : Int) + (size : Int) by omega, show i + sh + size - (i + sh) = size by omega] at e
  rw [e]
  exact (f.drop _).take _
theorem fls_of {K : PySem.W.Frag} {H : Hp} {ms : List Rat} {size sh : Nat} {zs : List V} (hl : zs.length = size) (h : ∀ (j : Nat) (x : V), zs[j]? = some x → ∃ p ys, x = .ref p ∧ H p = some (.lst ys) ∧ Frs K H ((ms.drop (j + sh)).take size) ys) : Fls K H (tab ms size sh) zs := by
  refine ⟨by simp [tab, hl], fun j g z => ?_⟩
  have hj : j < size := by
    rcases Nat.lt_or_ge j size with y | y
    · exact y
    · rw [tab, List.getElem?_eq_none (by simpa using y)] at z; cases z
  have e : zs[j]? = some zs[j] := List.getElem?_eq_getElem (by omega)
  obtain ⟨p, ys, e1, e2, f⟩ := h j _ e
  have eg : g = (ms.drop (j + sh)).take size := by
    rw [tab, List.getElem?_map, List.getElem?_range hj] at z
    exact (Option.some.inj z).symm
  rw [eg]
  exact ⟨p, ys, by rw [e, e1], e2, f⟩
def spWs53 (K : PySem.W.Frag) : Sp := fun vs H Q _ => ∃ (a : Addr) (ns : List Int) (b w : Int) (k : Nat), vs = [.ref a, .int b, .int k, .int w] ∧ SqL K H a (ns.map V.int) ∧ 0 ≤ b ∧ b ≤ 10 ∧ k ≤ 7 ∧
  ∀ P D1 D2 H' x1 x2 f1 f2, Same H H' → H D1 = none → H D2 = none → D1 ≠ D2 → H' P = some (.tup [.ref D1, .ref D2]) → H' D1 = some (.lst x1) → H' D2 = some (.lst x2) → Frs K H' f1 x1 → Frs K H' f2 x2 → Ws f1 f2 → f2.length = k → Q (.ref P) H'
def spMoBy (K : PySem.W.Frag) : Sp := fun vs H Q _ => ∃ (D1 D2 : Addr) (x1 x2 : List V) (L D : List Rat), vs = [.ref D1, .ref D2] ∧ H D1 = some (.lst x1) ∧ H D2 = some (.lst x2) ∧ Frs K H L x1 ∧ Frs K H D x2 ∧ Ws L D ∧ ∀ S H' ys, Same H H' → H S = none → H' S = some (.lst ys) → Frs K H' (momL L D) ys → Q (.ref S) H'
def spTbl53 (K : PySem.W.Frag) : Sp := fun vs H Q _ => ∃ (m : Addr) (xs : List V) (ms : List Rat) (n sh : Nat), vs = [.ref m, .int n, .int sh] ∧ SqL K H m xs ∧ Frs K H ms xs ∧ n ≤ 8 ∧ (n = 0 ∨ 2 * (n - 1) + sh < ms.length) ∧ ms.length ≤ 100 ∧ ∀ D H', Same H H' → H D = none → FTab K H' D n n (fun i j => Mt.cf ms (i + j + sh)) → Q (.ref D) H'
theorem lf_rp {L D : List Rat} {i l : Nat} (hi : i ≤ D.length + 1) (hl : i + l < 2 * D.length + 2) : Mt.lf (momL L D) (Mt.rp L D i) l = Mt.smz L D (D.length + 1) 0 l i * Mt.pr (Mt.cf D) 0 i := by
  rw [← Mt.lf_dot, Mt.dot_drop (L := L) (D := D) (T := D.length + 1) _ l (fun k hk => momL_at (by rw [Mt.rp_len] at hk; omega)), Mt.Lx_rp (by omega) i l hi]
theorem rp_mo {L D : List Rat} {i : Nat} (hi : i ≤ D.length + 1) : Mt.Mo (momL L D) (Mt.rp L D i) i := ⟨Mt.rp_len L D i, (Mt.rp_top L D i).1, fun l hl => by
  rw [lf_rp hi (by omega), Mt.smz]
  split
  · rw [Mt.far l 0 i (by omega), Rat.zero_mul]
  · rw [Rat.zero_mul]⟩
theorem hank {L D : List Rat} {n : Nat} (hn : n ≤ D.length + 1) : Mt.det n (fun i j => Mt.cf (momL L D) (i + j)) = Mt.prF (fun i => Mt.pr (Mt.cf D) 0 i) n := by
  rw [Mt.hankel (p := Mt.rp L D) fun i hi => rp_mo (by omega)]
  refine Mt.prF_congr fun i hi => ?_
  rw [lf_rp (by omega) (by omega), Mt.smz_up (by omega), Rat.one_mul]
theorem hank1 {L D : List Rat} {n : Nat} (hn : n ≤ D.length + 1) : Mt.det n (fun i j => Mt.cf (momL L D) (i + j + 1)) = Mt.sg n * (Mt.prF (fun i => Mt.pr (Mt.cf D) 0 i) n * Mt.cf (Mt.rp L D n) 0) := by
  rcases n with _ | n
  · show (1 : Rat) = 1 * (1 * 1)
    grind
  · rw [Mt.hankel_shift (q := Mt.rp L D (n + 1)) (rp_mo hn), hank hn, Rat.mul_comm (Mt.cf _ _)]
theorem tab_ftab {K : PySem.W.Frag} {H0 H : Hp} {D : Addr} {ms : List Rat} {n sh : Nat} (h : TabAt K H0 H D ms n sh) (hb : n = 0 ∨ 2 * (n - 1) + sh < ms.length) : FTab K H D n n (fun i j => Mt.cf ms (i + j + sh)) := by
  obtain ⟨_, _, zs, hD, fl, lz, hp⟩ := h
  refine ⟨zs, hD, lz, fun i hi => ?_⟩
  obtain ⟨p, ys, e, hy, f⟩ := fl.2 i ((ms.drop (i + sh)).take n) (by rw [tab, List.getElem?_map, List.getElem?_range hi]; rfl)
  have el : ((List.range n).map fun j => Mt.cf ms (i + j + sh)) = (ms.drop (i + sh)).take n := by
    refine Mt.ext_cf (by simp; omega) fun j hj => ?_
    have hj : j < n := by simpa using hj
    rw [Mt.cf_map_range, if_pos hj]
    unfold Mt.cf
    rw [List.getD_eq_getElem?_getD, List.getD_eq_getElem?_getD, List.getElem?_take, if_pos hj, List.getElem?_drop, show i + sh + j = i + j + sh by omega]
  exact ⟨p, ys, e, (hp p (List.mem_of_getElem? e)).1, hy, by rw [el]; exact f⟩
theorem meas53 {K : PySem.W.Frag} {H : Hp} {Q : VK} {E : XK} {TD : Addr} {n : Nat} {G : Nat → Nat → Rat} (hT : FTab K H TD n n G) (hn : n ≤ 8) (z : ∀ i, i < n → ∀ j, j < n → Mt.Gd 15 (G i j)) (hq : ∀ p H', Same H H' → H p = none → H' p = some (frO (Mt.det n G)) → Q (.ref p) H') : spMeas K [.ref TD] H Q E := by
  refine ⟨TD, n, G, Mt.W0 ^ 15 * Mt.B0 ^ 15, 300, rfl, hT.rows, hn, fun i hi => ⟨Mt.B0 ^ 15, by decide +kernel, by decide +kernel, fun j hj => z i hi j hj⟩, by omega, by decide, by decide +kernel, ?_, hq⟩
  refine Nat.lt_of_le_of_lt (Nat.mul_le_mul (Mt.fact_mono hn) (Nat.pow_le_pow_right (by decide +kernel) hn)) ?_
  decide +kernel
def spProd53 (K : PySem.W.Frag) : Sp := fun vs H Q _ => ∃ (D2 : Addr) (x2 : List V) (D : List Rat) (n : Nat), vs = [.ref D2, .int n] ∧ H D2 = some (.lst x2) ∧ Frs K H D x2 ∧ (∀ q ∈ D, Mt.Wg q) ∧ D.length ≤ 7 ∧ n ≤ D.length + 1 ∧ ∀ p H', Same H H' → Fq K H' p (Mt.prF (fun i => Mt.pr (Mt.cf D) 0 i) n) → Q (.ref p) H'
section
variable {P : Program} {w : World} {K : PySem.W.Frag} {mg : Str → Option Value} {base : Heap} {C_NOUGHT : Addr} {C_NoFraction : Addr} {C_NoWeights : Addr} {C_ONE : Addr} {C_TooFar : Addr}
abbrev s_is_whole : Stmt := top 8
theorem sc_is_whole : FnScope ["thing"] ["thing"] (defScope s_is_whole) := ⟨rfl, rfl, rfl, by decide +kernel, rfl, by decide +kernel, by decide +kernel⟩
theorem ok_is_whole {f : Addr} {fd : FuncData} (F : Fun K "is_whole" "is_whole" s_is_whole f fd) (m : mg "is_whole" = some (.ref f)) (T : Tx w K mg C_NOUGHT C_NoFraction C_NoWeights C_ONE C_TooFar) : Callee P w K mg base 1 "is_whole" ["thing"] (spWhole) := by
  refine ⟨f, fd, ?_, m, F.kp, F.binds fun _ _ _ _ _ _ us hl => match us, hl with | [_], _ => rfl⟩
  refine F.okE sc_is_whole (fun vs H Q E h => ?_) (fun cdv A outer s H vs Q E hr h => ?_)
  · obtain ⟨_, rfl, _⟩ := h
    rfl
  · obtain ⟨a, rfl, hq⟩ := h
    refine ⟨_, (pss_one (ps_ret (pe_and (pe_callB call_isi (by rfl) T.b_isinstance (by decide +kernel) (pa_cons (pv 0) (pa_cons (pe_bltn (v := .ty "int") (u := .type "int") rfl T.b_int (by decide +kernel) rfl) pa_nil))) (pe_one (pe_not (pe_callB call_isi (by rfl) T.b_isinstance (by decide +kernel) (pa_cons (pv 0) (pa_cons (pe_bltn (v := .ty "bool") (u := .type "bool") rfl T.b_bool (by decide +kernel) rfl) pa_nil)))))))), ?_⟩
    walk_at "rd"
    refine isi_ii (.inr ⟨rfl, isi_ib (.inl ⟨rfl, hq⟩)⟩)
abbrev s_shared_part : Stmt := top 9
theorem sc_shared_part : FnScope ["a", "b", "larger", "lesser", "rest"] ["a", "b"] (defScope s_shared_part) := ⟨rfl, rfl, rfl, by decide +kernel, rfl, by decide +kernel, by decide +kernel⟩
theorem ok_shared_part {f : Addr} {fd : FuncData} (F : Fun K "shared_part" "shared_part" s_shared_part f fd) (m : mg "shared_part" = some (.ref f)) (T : Tx w K mg C_NOUGHT C_NoFraction C_NoWeights C_ONE C_TooFar) : Callee P w K mg base 1 "shared_part" ["a", "b"] (spGcd) := by
  refine ⟨f, fd, ?_, m, F.kp, F.binds fun _ _ _ _ _ _ us hl => match us, hl with | [_, _], _ => rfl⟩
  refine F.okE sc_shared_part (fun vs H Q E h => ?_) (fun cdv A outer s H vs Q E hr h => ?_)
  · obtain ⟨_, _, rfl, _⟩ := h
    rfl
  · obtain ⟨a, b, rfl, hq⟩ := h
    refine ⟨_, (pss_cons (ps_set (i := 2) sc_shared_part.nd rfl (Or.inl rfl) (pe_callB call_abs (by rfl) T.b_abs (by decide +kernel) (pa_cons (pv 0) pa_nil))) (pss_cons (ps_set (i := 3) sc_shared_part.nd rfl (Or.inl rfl) (pe_callB call_abs (by rfl) T.b_abs (by decide +kernel) (pa_cons (pv 1) pa_nil))) (pss_cons (ps_wh PassesOwn.never (pt_cmpR op_ne (pv 3) pe_int (nomark _)) (pss_cons (ps_set (i := 4) sc_shared_part.nd rfl (Or.inl rfl) (pe_op op_mod (pv 2) (pv 3))) (pss_cons (ps_set (i := 2) sc_shared_part.nd rfl (Or.inl rfl) (pv 3)) (pss_one (ps_set (i := 3) sc_shared_part.nd rfl (Or.inl rfl) (pv 4)))))) (pss_one (ps_ret (pv 2)))))), ?_⟩
    walk_at "rd"
    refine ⟨fun σ H' => ∃ (x y : Int) (r : Option V), σ = [some (.int a), some (.int b), some (.int x), some (.int y), r] ∧ H' = H ∧ 0 ≤ x ∧ 0 ≤ y ∧ Int.gcd x y = Int.gcd a b, fun σ _ => match σ with | [_, _, _, some (.int y), _] => y.toNat | _ => 0, ⟨_, _, none, rfl, rfl, ?_, ?_, gcd_abs a b⟩, ?_⟩
    · split <;> omega
    · split <;> omega
    rintro σ H' ⟨x, y, r, rfl, rfl, hx, hy, hg⟩
    by_cases hy0 : y = 0
    · subst hy0
      walk_at "rd"
      rw [← hg, gcd_end hx] at hq
      exact hq
    · have h1 := Int.emod_nonneg x hy0
      have h2 := Int.emod_lt_of_pos x (show 0 < y by omega)
      have h3 := gcd_step hx (show 0 < y by omega)
      walk_at "rd"
      exact .inr ⟨hy0, by omega, ⟨y, x % y, ⟨rfl, rfl⟩, hy, h1, h3.trans hg⟩, by omega⟩
abbrev s_fraction : Stmt := top 10
theorem sc_fraction : FnScope ["top", "bottom", "part"] ["top", "bottom"] (defScope s_fraction) := ⟨rfl, rfl, rfl, by decide +kernel, rfl, by decide +kernel, by decide +kernel⟩
theorem ok_fraction {f : Addr} {fd : FuncData} (F : Fun K "fraction" "fraction" s_fraction f fd) (m : mg "fraction" = some (.ref f)) (T : Tx w K mg C_NOUGHT C_NoFraction C_NoWeights C_ONE C_TooFar) (c_is_whole : Callee P w K mg base 1 "is_whole" ["thing"] (spWhole)) (c_shared_part : Callee P w K mg base 1 "shared_part" ["a", "b"] (spGcd)) : Callee P w K mg base 2 "fraction" ["top", "bottom"] (spFraction C_NoFraction) := by
  refine ⟨f, fd, ?_, m, F.kp, F.binds fun _ _ _ _ _ _ us hl => match us, hl with | [_, _], _ => rfl⟩
  refine F.okX sc_fraction (fun vs H Q E h => ?_) (fun cdv A outer s H vs Q E hr h => ?_)
  · obtain ⟨_, _, rfl, _⟩ := h
    rfl
  · obtain ⟨t, b, rfl, hbd, h0, h1⟩ := h
    refine ⟨_, (pss_cons (ps_if (PW.pt (pw_or (pt_not (pt_val (pe_c c_is_whole (hr.mono (by decide)) pass_cx (pa_cons (pv 0) pa_nil)))) (pw_or1 (pt_not (pt_val (pe_c c_is_whole (hr.mono (by decide)) pass_cx (pa_cons (pv 1) pa_nil))))))) (pss_one (ps_raise raises_cx rfl rfl T.m_NoFraction T.x_NoFraction (pa_cons pe_str pa_nil))) pss_nil) (pss_cons (ps_if (pt_cmpR op_eq (pv 1) pe_int (nomark _)) (pss_one (ps_raise raises_cx rfl rfl T.m_NoFraction T.x_NoFraction (pa_cons pe_str pa_nil))) pss_nil) (pss_cons (ps_set (i := 2) sc_fraction.nd rfl (Or.inl rfl) (pe_c c_shared_part (hr.mono (by decide)) pass_cx (pa_cons (pv 0) (pa_cons (pv 1) pa_nil)))) (pss_cons (ps_if (pt_cmpR op_lt (pv 1) pe_int (nomark _)) (pss_one (ps_set (i := 2) sc_fraction.nd rfl (Or.inl rfl) (pe_un un_neg (pv 2)))) pss_nil) (pss_one (ps_ret (pe_tup (pa_cons (pe_op op_fdivB (pv 0) (pv 2)) (pa_cons (pe_op op_fdivB (pv 1) (pv 2)) pa_nil))))))))), ?_⟩
    walk_at "rd"
    refine ⟨t, rfl, .inr ⟨rfl, b, rfl, .inr ⟨rfl, ?_⟩⟩⟩
    split
    · rename_i hb
      exact ⟨sz_le 1 (by decide), h0 hb⟩
    · rename_i hb
      refine ⟨t, b, rfl, ?_⟩
      have hg := Mt.gcd_le (t := t) hb
      have hp := Int.gcd_pos_of_ne_zero_right t hb
      have hbd' : Bd 9000 ((Int.gcd t b : Nat) : Int) := hbd.le (by simpa using hg)
      walk_at "rd"
      split
      · exact ⟨⟨by omega, hbd'.neg⟩, ⟨by omega, hbd'.neg⟩, sz_le 2 (by decide), fun p hp => h1 hb p _ _ hp (Mt.red_neg (by omega))⟩
      · exact ⟨⟨by omega, hbd'⟩, ⟨by omega, hbd'⟩, sz_le 2 (by decide), fun p hp => h1 hb p _ _ hp (Mt.red_pos (by omega))⟩
abbrev s_plus : Stmt := top 11
theorem sc_plus : FnScope ["a", "b", "part", "top", "rest"] ["a", "b"] (defScope s_plus) := ⟨rfl, rfl, rfl, by decide +kernel, rfl, by decide +kernel, by decide +kernel⟩
theorem ok_plus {f : Addr} {fd : FuncData} (F : Fun K "plus" "plus" s_plus f fd) (m : mg "plus" = some (.ref f)) (T : Tx w K mg C_NOUGHT C_NoFraction C_NoWeights C_ONE C_TooFar) (c_shared_part : Callee P w K mg base 1 "shared_part" ["a", "b"] (spGcd)) : Callee P w K mg base 2 "plus" ["a", "b"] (spBin K (fun a b => a + b)) := by
  refine ⟨f, fd, ?_, m, F.kp, F.binds fun _ _ _ _ _ _ us hl => match us, hl with | [_, _], _ => rfl⟩
  refine F.okE sc_plus (fun vs H Q E h => ?_) (fun cdv A outer s H vs Q E hr h => ?_)
  · obtain ⟨_, _, _, _, rfl, _⟩ := h
    rfl
  · obtain ⟨pa, pb, a, b, rfl, ha, hb, sa, sb, hq⟩ := h
    refine ⟨_, (pss_cons (ps_set (i := 2) sc_plus.nd rfl (Or.inl rfl) (pe_c c_shared_part (hr.mono (by decide)) np (pa_cons (pe_ix ix_fq (pv 0) pe_int (fun _ _ => rfl)) (pa_cons (pe_ix ix_fq (pv 1) pe_int (fun _ _ => rfl)) pa_nil)))) (pss_cons (ps_set (i := 3) sc_plus.nd rfl (Or.inl rfl) (pe_op op_add (pe_op op_mulB (pe_ix ix_fq (pv 0) pe_int (fun _ _ => rfl)) (pe_op op_fdivB (pe_ix ix_fq (pv 1) pe_int (fun _ _ => rfl)) (pv 2))) (pe_op op_mulB (pe_ix ix_fq (pv 1) pe_int (fun _ _ => rfl)) (pe_op op_fdivB (pe_ix ix_fq (pv 0) pe_int (fun _ _ => rfl)) (pv 2))))) (pss_cons (ps_set (i := 4) sc_plus.nd rfl (Or.inl rfl) (pe_c c_shared_part (hr.mono (by decide)) np (pa_cons (pv 3) (pa_cons (pv 2) pa_nil)))) (pss_one (ps_ret (pe_tup (pa_cons (pe_op op_fdivB (pv 3) (pv 4)) (pa_cons (pe_op op_mulB (pe_op op_fdivB (pe_ix ix_fq (pv 0) pe_int (fun _ _ => rfl)) (pv 2)) (pe_op op_fdivB (pe_ix ix_fq (pv 1) pe_int (fun _ _ => rfl)) (pv 4))) pa_nil)))))))), ?_⟩
    have h := Mt.plus_rat a b
    dsimp only at h hq
    refine tSeq_step fun N hN => ?_
    walk_at "rd"
    refine ⟨a, ha, b, hb, _, _, rfl, hN _ _ ?_⟩
    clear hN N
    generalize ((Int.gcd (a.den : Int) (b.den : Int) : Nat) : Int) = g at h ⊢
    refine tSeq_step fun N hN => ?_
    walk_at "rd"
    have p0 := h.2.1
    have pb := h.2.2.2.2.1
    have bg : Bd 4000 g := sb.b.le (by omega)
    have l1 := h.2.2.2.2.2.2.1
    have l2 := h.2.2.2.2.2.2.2.1
    refine ⟨a, ha, b, hb, bg.dv (by omega), sa.t.mu (sb.b.le l1), b, hb, a, ha, bg.dv (by omega), sb.t.mu (sa.b.le l2), hN _ _ ?_⟩
    clear hN N
    generalize a.num * (b.den : Int).fdiv g + b.num * (a.den : Int).fdiv g = t at h ⊢
    refine tSeq_step fun N hN => ?_
    walk_at "rd"
    refine ⟨_, _, rfl, hN _ _ ?_⟩
    clear hN N
    generalize ((Int.gcd t g : Nat) : Int) = r at h ⊢
    walk_at "rd"
    obtain ⟨⟨e1, e2⟩, _, r0, _, _, rp, _, _, l3⟩ := h
    have br : Bd 4000 r := bg.le (by omega)
    refine ⟨br.dv (by omega), a, ha, bg.dv (by omega), b, hb, br.dv (by omega), (sa.b.le l2).mu (sb.b.le l3), sz_le 2 (by decide), fun p hp => ?_⟩
    rw [e1, e2]
    exact hq p _ (same_upd hp) hp upd_same
abbrev s_times : Stmt := top 12
theorem sc_times : FnScope ["a", "b", "first", "second"] ["a", "b"] (defScope s_times) := ⟨rfl, rfl, rfl, by decide +kernel, rfl, by decide +kernel, by decide +kernel⟩
theorem ok_times {f : Addr} {fd : FuncData} (F : Fun K "times" "times" s_times f fd) (m : mg "times" = some (.ref f)) (T : Tx w K mg C_NOUGHT C_NoFraction C_NoWeights C_ONE C_TooFar) (c_shared_part : Callee P w K mg base 1 "shared_part" ["a", "b"] (spGcd)) : Callee P w K mg base 2 "times" ["a", "b"] (spBin K (fun a b => a * b)) := by
  refine ⟨f, fd, ?_, m, F.kp, F.binds fun _ _ _ _ _ _ us hl => match us, hl with | [_, _], _ => rfl⟩
  refine F.okE sc_times (fun vs H Q E h => ?_) (fun cdv A outer s H vs Q E hr h => ?_)
  · obtain ⟨_, _, _, _, rfl, _⟩ := h
    rfl
  · obtain ⟨pa, pb, a, b, rfl, ha, hb, sa, sb, hq⟩ := h
    refine ⟨_, (pss_cons (ps_set (i := 2) sc_times.nd rfl (Or.inl rfl) (pe_c c_shared_part (hr.mono (by decide)) np (pa_cons (pe_ix ix_fq (pv 0) pe_int (fun _ _ => rfl)) (pa_cons (pe_ix ix_fq (pv 1) pe_int (fun _ _ => rfl)) pa_nil)))) (pss_cons (ps_set (i := 3) sc_times.nd rfl (Or.inl rfl) (pe_c c_shared_part (hr.mono (by decide)) np (pa_cons (pe_ix ix_fq (pv 1) pe_int (fun _ _ => rfl)) (pa_cons (pe_ix ix_fq (pv 0) pe_int (fun _ _ => rfl)) pa_nil)))) (pss_one (ps_ret (pe_tup (pa_cons (pe_op op_mulB (pe_op op_fdivB (pe_ix ix_fq (pv 0) pe_int (fun _ _ => rfl)) (pv 2)) (pe_op op_fdivB (pe_ix ix_fq (pv 1) pe_int (fun _ _ => rfl)) (pv 3))) (pa_cons (pe_op op_mulB (pe_op op_fdivB (pe_ix ix_fq (pv 0) pe_int (fun _ _ => rfl)) (pv 3)) (pe_op op_fdivB (pe_ix ix_fq (pv 1) pe_int (fun _ _ => rfl)) (pv 2))) pa_nil))))))), ?_⟩
    have h := Mt.times_rat a b
    dsimp only at h hq
    refine tSeq_step fun N hN => ?_
    walk_at "rd"
    refine ⟨a, ha, b, hb, _, _, rfl, hN _ _ ?_⟩
    clear hN N
    generalize ((Int.gcd a.num (b.den : Int) : Nat) : Int) = f at h ⊢
    refine tSeq_step fun N hN => ?_
    walk_at "rd"
    refine ⟨b, hb, a, ha, _, _, rfl, hN _ _ ?_⟩
    clear hN N
    generalize ((Int.gcd b.num (a.den : Int) : Nat) : Int) = s at h ⊢
    walk_at "rd"
    obtain ⟨⟨e1, e2⟩, f0, s0, fb, sc, l1, l2, l3, l4⟩ := h
    have bf : Bd 4000 f := sb.b.le (by omega)
    have bs : Bd 4000 s := sa.b.le (by omega)
    refine ⟨a, ha, bf.dv (by omega), b, hb, bs.dv (by omega), (sa.t.le l1).mu (sb.t.le l2), a, ha, bs.dv (by omega), b, hb, bf.dv (by omega), (sa.b.le l3).mu (sb.b.le l4), sz_le 2 (by decide), fun p hp => ?_⟩
    rw [e1, e2]
    exact hq p _ (same_upd hp) hp upd_same
abbrev s_moment_table : Stmt := top 14
theorem sc_moment_table : FnScope ["moments", "size", "shift", "last"] ["moments", "size", "shift"] (defScope s_moment_table) := ⟨rfl, rfl, rfl, by decide +kernel, rfl, by decide +kernel, by decide +kernel⟩
theorem ok_moment_table {f : Addr} {fd : FuncData} (F : FunD K "moment_table" "moment_table" s_moment_table [.int 0] f fd) (m : mg "moment_table" = some (.ref f)) (T : Tx w K mg C_NOUGHT C_NoFraction C_NoWeights C_ONE C_TooFar) : CalleeD P w K mg base 1 "moment_table" ["moments", "size", "shift"] [.int 0] (spTable K C_TooFar) := by
  refine F.callee m ?_ ?_
  rotate_left
  · intro i hi T kV doc pm an cdv ct items us hl hz
    obtain ⟨l⟩ := items
    have hl2 : l.length = 1 := hl
    have hi2 : i ≤ 1 := hi
    have hz2 : us.length = 2 + i := by simp at hz; omega
    clear hz hl hi
    match l, hl2 with
    | [_], _ =>
      rcases (show i = 0 ∨ i = 1 by omega) with rfl | rfl
      · match us, hz2 with | [_, _], _ => exact ⟨_, rfl, rfl⟩
      · match us, hz2 with | [_, _, _], _ => exact ⟨_, rfl, rfl⟩
  refine F.okX sc_moment_table (fun vs H Q E h => ?_) (fun cdv A outer s H vs Q E hr h => ?_)
  · obtain ⟨_, _, _, _, _, rfl, _⟩ := h
    rfl
  · obtain ⟨m, xs, ms, size, sh, rfl, hm, fm, hs, hsh, lm, h0, h1⟩ := h
    refine ⟨_, (pss_cons (ps_set (i := 3) sc_moment_table.nd rfl (Or.inl rfl) (pe_op op_add (pe_op op_mul pe_int (pe_op op_sub (pv 1) pe_int)) (pv 2))) (pss_cons (ps_if (PW.pt (pw_and (pt_cmpR op_gt (pv 1) pe_int (nomark _)) (pw_and1 (PW.pt (pw_or (pt_cmpR op_lt (pv 2) pe_int (nomark _)) (pw_or1 (pt_cmpR op_ge (pv 3) (pe_callB call_len_seq (by rfl) T.b_len PySem.boot_len (pa_cons (pv 0) pa_nil)) (nomark _)))))))) (pss_one (ps_raise raises_cx rfl rfl T.m_TooFar T.x_TooFar (pa_cons pe_str pa_nil))) pss_nil) (pss_one (ps_ret (PCo.pe (coR T.b_range (pv 1) (fun _ hpi => pe_comp3 ["i"] "size" 1 "shift" 2 "moments" 0 rfl hpi (fun _ _ _ _ _ => (pg_name (i := 0) (show List.Nodup [("i" : Str), ("size" : Str), ("shift" : Str), ("moments" : Str)] by decide +kernel) rfl (Or.inl rfl) (Or.inr rfl)).mo) (fun _ _ _ _ _ => PE.mo (pe_callTy (show CallR _ (.type "list") (fun xs H Q => ∃ p ys, xs = [.ref p] ∧ (SqL K H p ys ∨ SqT K H p ys) ∧ ∀ l, H l = none → Q (.ref l) (upd H l (.lst ys))) from call_list_of) (by rfl) T.b_list (by decide +kernel) (pa_cons (pe_slice (show SlR _ (rSlL K) from sl_list) (pv 3) (po_some (pe_op op_add (pv 0) (pv 2))) (po_some (pe_op op_add (pe_op op_add (pv 0) (pv 2)) (pv 1)))) pa_nil))) rfl rfl rfl rfl rfl rfl rfl rfl rfl rfl rfl rfl rfl))))))), ?_⟩
    have lx := fm.len
    refine tSeq_step fun N hN => ?_
    walk_at "rd"
    refine ⟨.inl ⟨by decide, by decide⟩, hN _ _ ?_⟩
    clear hN N
    refine tSeq_step fun N hN => ?_
    walk_at "rd"
    have go : ¬ bad ms size sh → N [some (V.ref m), some (V.int ↑size), some (V.int ↑sh), some (V.int (2 * (↑size - 1) + ↑sh))] H := fun nb => by
      refine hN _ _ ?_
      clear hN N
      walk_at "rd"
      refine ⟨by omega, ?_⟩
      refine CO.elsD (fun D i H' v => ∃ p ys, v = .ref p ∧ H' p = some (.lst ys) ∧ Frs K H' ((ms.drop (i + sh)).take size) ys ∧ H p = none ∧ p ≠ D) (fun D i H1 H2 x s h => ?_) (fun D i H1 ys o x hD h => ?_) (by omega) (fun _ _ => trivial) (fun D i H1 x R hi sm nD hD hx kk => ?_) fun D H1 zs s1 nD hD lz hz => ?_
      · obtain ⟨p, ys, e, h1, f, n⟩ := h
        exact ⟨p, ys, e, s _ _ h1, f.same s, n⟩
      · obtain ⟨p, us, e, h1, f, n, ne⟩ := h
        exact ⟨p, us, e, by rw [upd_ne ne]; exact h1, Frs.updL hD f, n, ne⟩
      · subst hx
        obtain ⟨ws, hD⟩ := hD
        walk_at "rd"
        refine ⟨m, xs, rfl, sm.seq hm, fun p1 n1 => ⟨p1, rfl, _, .inl (SqL.of upd_same), fun l nl => ?_⟩⟩
        have u1 := same_upd (o := .lst (cutV xs (some ((i : Int) + (sh : Int))) (some ((i : Int) + (sh : Int) + (size : Int))))) n1
        have u2 := same_upd (o := .lst (cutV xs (some ((i : Int) + (sh : Int))) (some ((i : Int) + (sh : Int) + (size : Int))))) nl
        refine kk _ _ (u1.trans u2) ⟨l, _, rfl, upd_same, ((cut_in fm hi nb).same sm).same (u1.trans u2), (sm.trans u1).free nl, (ne_of_none (u1 _ _ hD) nl).symm⟩
      · refine h1 nb D H1 ⟨s1, nD, zs, hD, fls_of lz fun j x z => ?_, lz, fun p hp => ?_⟩
        · obtain ⟨p, ys, e, h, f, _, _⟩ := hz j x z
          exact ⟨p, ys, e, h, f⟩
        · obtain ⟨j, hj, e⟩ := List.mem_iff_getElem.mp hp
          obtain ⟨p', ys, e2, _, _, n, ne⟩ := hz j (.ref p) (by rw [List.getElem?_eq_getElem hj, e])
          cases e2
          exact ⟨ne, n⟩
    by_cases y : 0 < size
    · rw [if_pos y, if_neg (by omega)]
      refine ⟨xs, .inl hm, ?_⟩
      split
      · rename_i z
        exact ⟨sz_le 1 (by decide), h0 ⟨y, by omega⟩⟩
      · rename_i z
        exact go fun ⟨_, b⟩ => z (by omega)
    · rw [if_neg y]
      exact go fun ⟨b, _⟩ => y b
abbrev s_shared_bottom : Stmt := top 15
theorem sc_shared_bottom : FnScope ["numbers", "bottom", "number"] ["numbers"] (defScope s_shared_bottom) := ⟨rfl, rfl, rfl, by decide +kernel, rfl, by decide +kernel, by decide +kernel⟩
theorem ok_shared_bottom {f : Addr} {fd : FuncData} (F : Fun K "shared_bottom" "shared_bottom" s_shared_bottom f fd) (m : mg "shared_bottom" = some (.ref f)) (T : Tx w K mg C_NOUGHT C_NoFraction C_NoWeights C_ONE C_TooFar) (c_shared_part : Callee P w K mg base 1 "shared_part" ["a", "b"] (spGcd)) : Callee P w K mg base 2 "shared_bottom" ["numbers"] (spShBot K) := by
  refine ⟨f, fd, ?_, m, F.kp, F.binds fun _ _ _ _ _ _ us hl => match us, hl with | [_], _ => rfl⟩
  refine F.okE sc_shared_bottom (fun vs H Q E h => ?_) (fun cdv A outer s H vs Q E hr h => ?_)
  · obtain ⟨_, _, _, _, rfl, _⟩ := h
    rfl
  · obtain ⟨a, xs, f, Dm, rfl, ha, fa, D0, D9, fd, lf, hq⟩ := h
    refine ⟨_, (pss_cons (ps_set (i := 1) sc_shared_bottom.nd rfl (Or.inl rfl) pe_int) (pss_cons (ps_forL rfl PassesOwn.never (pv 0) (pg_name (i := 2) sc_shared_bottom.nd rfl (Or.inl rfl)) (pss_one (ps_set (i := 1) sc_shared_bottom.nd rfl (Or.inl rfl) (pe_op op_mulB (pv 1) (pe_op op_fdivB (pe_ix ix_fq (pv 2) pe_int (fun _ _ => rfl)) (pe_c c_shared_part (hr.mono (by decide)) np (pa_cons (pv 1) (pa_cons (pe_ix ix_fq (pv 2) pe_int (fun _ _ => rfl)) pa_nil)))))))) (pss_one (ps_ret (pv 1))))), ?_⟩
    refine tSeq_step fun N hN => ?_
    walk_at "rd"
    refine hN _ _ ?_
    clear hN N
    refine tSeq_step fun N hN => ?_
    walk_at "rd"
    have lx := fa.len
    have bd : ∀ z : Nat, z ≤ Dm → Bd 8901 (z : Int) := fun z hz => (show (_ : Nat) < _ by
      rw [Int.natAbs_natCast]
      exact Nat.lt_of_le_of_lt (Nat.le_trans hz D9) (Nat.pow_lt_pow_right (by decide) (by decide)))
    refine ⟨xs, ha, fun i σ H' => ∃ (b : Nat) (r2 : Option V), σ = [some (.ref a), some (.int b), r2] ∧ H' = H ∧ 0 < b ∧ (∀ j, j < i → (Mt.cf f j).den ∣ b) ∧ b ∣ Dm, ⟨1, none, rfl, rfl, by decide, fun j hj => absurd hj (by omega), Nat.one_dvd _⟩, ?_, ?_, ?_⟩
    · rintro i σ H' hi ⟨b, r2, rfl, rfl, b0, dv, bl⟩
      exact ha
    · rintro i x σ H' hx ⟨b, r2, rfl, rfl, b0, dv, bl⟩
      have hi : i < xs.length := (List.getElem?_eq_some_iff.mp hx).1
      obtain ⟨p, e, q⟩ := fa.at (j := i) (by omega)
      cases e.symm.trans hx
      have fdi := fd i (by omega)
      have d0 : 0 < (Mt.cf f i).den := Rat.den_pos _
      walk_at "rd"
      refine ⟨_, q, _, q, b, _, rfl, _, rfl, ?_⟩
      have di : ∀ j, j < i + 1 → (Mt.cf f j).den ∣ b ∨ j = i := fun j hj => by
        rcases Nat.lt_or_ge j i with y | y
        · exact .inl (dv j y)
        · exact .inr (by omega)
      generalize hd : (Mt.cf f i).den = d at d0 fdi
      have eg : Int.gcd (b : Int) (d : Int) = Nat.gcd b d := by rw [Int.gcd, Int.natAbs_natCast, Int.natAbs_natCast]
      have g0 : 0 < Nat.gcd b d := Nat.gcd_pos_of_pos_left _ b0
      have fe : ((d : Int)).fdiv ((Nat.gcd b d : Nat) : Int) = ((d / Nat.gcd b d : Nat) : Int) := by
        rw [Int.fdiv_eq_ediv_of_nonneg _ (by omega)]; rfl
      have el : b * (d / Nat.gcd b d) = Nat.lcm b d := by rw [Nat.lcm, Nat.mul_div_assoc _ (Nat.gcd_dvd_right b d)]
      have em : (b : Int) * ((d / Nat.gcd b d : Nat) : Int) = ((Nat.lcm b d : Nat) : Int) := by rw [← el, Int.natCast_mul]
      rw [eg, fe, em]
      have dle : d ≤ Dm := Nat.le_of_dvd D0 fdi
      have lp : 0 < Nat.lcm b d := Nat.lcm_pos b0 d0
      refine ⟨(bd _ (Nat.le_trans (Nat.gcd_le_right b d0) dle)).dv (by omega), (bd b (Nat.le_of_dvd D0 bl)).mu (bd _ (Nat.le_trans (Nat.div_le_self _ _) dle)), Nat.lcm b d, rfl, rfl, lp, fun j hj => ?_, Nat.lcm_dvd bl fdi⟩
      rcases di j hj with y | y
      · exact Nat.dvd_trans y (Nat.dvd_lcm_left b d)
      · rw [y, hd]; exact Nat.dvd_lcm_right b d
    · rintro σ H' ⟨b, r2, rfl, rfl, b0, dv, bl⟩
      refine hN _ _ ?_
      clear hN N
      walk_at "rd"
      exact hq b b0 (fun j hj => dv j (by omega)) bl
abbrev s_folded : Stmt := top 16
theorem sc_folded : FnScope ["head", "row", "before"] ["head", "row", "before"] (defScope s_folded) := ⟨rfl, rfl, rfl, by decide +kernel, rfl, by decide +kernel, by decide +kernel⟩
theorem ok_folded {f : Addr} {fd : FuncData} (F : Fun K "folded" "folded" s_folded f fd) (m : mg "folded" = some (.ref f)) (T : Tx w K mg C_NOUGHT C_NoFraction C_NoWeights C_ONE C_TooFar) : Callee P w K mg base 1 "folded" ["head", "row", "before"] (spFold K) := by
  refine ⟨f, fd, ?_, m, F.kp, F.binds fun _ _ _ _ _ _ us hl => match us, hl with | [_, _, _], _ => rfl⟩
  refine F.okE sc_folded (fun vs H Q E h => ?_) (fun cdv A outer s H vs Q E hr h => ?_)
  · obtain ⟨_, _, _, _, _, _, rfl, _⟩ := h
    rfl
  · obtain ⟨h, r, b, m, u, v, rfl, hh, hr1, hm, b0, bb, bu, bv, hq⟩ := h
    refine ⟨_, (pss_one (ps_ret (PCo.pe (coR2 T.b_range pe_int (pe_callB call_len_seq (by rfl) T.b_len PySem.boot_len (pa_cons (pv 1) pa_nil)) (fun _ hpi => pe_comp3 ["j"] "row" 1 "head" 0 "before" 2 rfl hpi (fun _ _ _ _ _ => (pg_name (i := 0) (show List.Nodup [("j" : Str), ("row" : Str), ("head" : Str), ("before" : Str)] by decide +kernel) rfl (Or.inl rfl) (Or.inr rfl)).mo) (fun _ _ _ _ _ => PE.mo (pe_op op_fdivB (pe_op op_sub (pe_op op_mulB (pe_ix (show IxR _ (rIxL K) from ix_list) (pv 2) pe_int (fun _ _ => rfl)) (pe_ix (show IxR _ (rIxL K) from ix_list) (pv 1) (pv 0) (fun _ _ => rfl))) (pe_op op_mulB (pe_ix (show IxR _ (rIxL K) from ix_list) (pv 1) pe_int (fun _ _ => rfl)) (pe_ix (show IxR _ (rIxL K) from ix_list) (pv 2) (pv 0) (fun _ _ => rfl)))) (pv 3))) rfl rfl rfl rfl rfl rfl rfl rfl rfl rfl rfl rfl rfl))))), ?_⟩
    simp [tSeq, tIfS, tTest, tB, tOp, rI, rI0, rEq, rNe, scal, tVar, tC, tCB, tCons, tNil, tNext, tRet, tRetN, L2.start, rIxL, rIxT, rFqI, tAsg, gName, tUn, rU, tNot, tNotV, tAnd, tOr, tAndV, tOrV, tIf, tTup, tLst, tCall, tCallS, tDrop, tForR, tForT, tForL, tForE, tForV, gTup, gCons, gNil, gSub, rSetL, tRaise, tTry, tH, Ends.gone, cσ, CPow, tCoR, tCoL, tCoT, tCoX, tForX, tExcInit, tFs, sXset, tXget, tRaiseI, tJoinRev, tChain, rAll, tHno, cx_K, cxU_K, rIn, tSl, tNoPart, tPart, rAppend, tBM, tForR2, tBM0, rClear, rReverse, tPar, tVs, tCoZ, tCoRH, tHE, tListRev, tForZ, tForVL, tForZL, tForK, tForD, sDPut, tDGet2, tDNewK, tDisp, tPairs, tCoLI, tCoRI, tCoKI, tAugS, ipI, rRep, tBreak, tCoR2]
    refine ⟨_, .inl hr1, by simp; omega, ?_⟩
    rw [show ((List.range (m + 1)).map fun j => V.int (v j)).length - 1 = m by simp]
    refine CO.pure1 (fun j => V.int ((u 0 * v (j + 1) - v 0 * u (j + 1)).fdiv b)) (by omega) (fun _ _ => trivial) (fun i H' x R hi sm hx kk => ?_) fun D H' s n hD => hq D H' s n hD
    subst hx
    have a1 : atI ((List.range (m + 1)).map fun j => V.int (u j)) 0 = some (.int (u 0)) := atI_nat (at_range (fun j => V.int (u j)) (show 0 < m + 1 by omega))
    have a2 : atI ((List.range (m + 1)).map fun j => V.int (v j)) 0 = some (.int (v 0)) := atI_nat (at_range (fun j => V.int (v j)) (show 0 < m + 1 by omega))
    have a3 := atI_nat (at_range (fun j => V.int (u j)) (show i + 1 < m + 1 by omega))
    have a4 := atI_nat (at_range (fun j => V.int (v j)) (show i + 1 < m + 1 by omega))
    rw [show ((i + 1 : Nat) : Int) = 1 + (i : Int) by omega] at a3 a4
    walk_at "rd"
    refine ⟨_, sm.seq hh, _, a1, _, sm.seq hr1, _, a4, _, rfl, _, rfl, (bu 0 (by omega)).mu (bv (i + 1) (by omega)), _, sm.seq hr1, _, a2, _, sm.seq hh, _, a3, _, rfl, _, rfl, (bv 0 (by omega)).mu (bu (i + 1) (by omega)), bb.dv b0, kk _ _ rfl (Same.refl _)⟩
abbrev s_whole_measure : Stmt := top 17
theorem sc_whole_measure : FnScope ["rows", "rest", "sign", "before", "places", "at", "head"] ["rows"] (defScope s_whole_measure) := ⟨rfl, rfl, rfl, by decide +kernel, rfl, by decide +kernel, by decide +kernel⟩
theorem ok_whole_measure {f : Addr} {fd : FuncData} (F : Fun K "whole_measure" "whole_measure" s_whole_measure f fd) (m : mg "whole_measure" = some (.ref f)) (T : Tx w K mg C_NOUGHT C_NoFraction C_NoWeights C_ONE C_TooFar) (c_folded : Callee P w K mg base 1 "folded" ["head", "row", "before"] (spFold K)) : Callee P w K mg base 2 "whole_measure" ["rows"] (spWM K) := by
  refine ⟨f, fd, ?_, m, F.kp, F.binds fun _ _ _ _ _ _ us hl => match us, hl with | [_], _ => rfl⟩
  refine F.okE sc_whole_measure (fun vs H Q E h => ?_) (fun cdv A outer s H vs Q E hr h => ?_)
  · obtain ⟨_, _, _, _, rfl, _⟩ := h
    rfl
  · obtain ⟨D, n, X, A, rfl, hA, hn, bA, bX, x1, hq⟩ := h
    refine ⟨_, (pss_cons (ps_set (i := 1) sc_whole_measure.nd rfl (Or.inr rfl) (pv 0)) (pss_cons (ps_set (i := 2) sc_whole_measure.nd rfl (Or.inl rfl) pe_int) (pss_cons (ps_set (i := 3) sc_whole_measure.nd rfl (Or.inr rfl) pe_int) (pss_cons (ps_wh PassesOwn.never (pt_cmpR op_gt (pe_callB call_len_seq (by rfl) T.b_len PySem.boot_len (pa_cons (pv 1) pa_nil)) pe_int (nomark _)) (pss_cons (PCo.psI (i := 4) (coRI T.b_range (pe_callB call_len_seq (by rfl) T.b_len PySem.boot_len (pa_cons (pv 1) pa_nil)) (fun _ hpi => pe_compIN ["i"] [("rest", 1, _)] rfl hpi (fun _ _ _ _ _ => (pg_name (i := 0) (show List.Nodup [("i" : Str), ("rest" : Str)] by decide +kernel) rfl (Or.inl rfl) (Or.inr rfl)).mo) (fun _ _ _ _ _ => PT.mo (pt_cmpR op_ne (pe_ix (show IxR _ (rIxL K) from ix_list) (pe_ix (show IxR _ (rIxL K) from ix_list) (pv 1) (pv 0) (fun _ _ => rfl)) pe_int (fun _ _ => rfl)) pe_int (nomark _))) (fun _ _ _ _ _ => PE.mo (pv 0)) rfl ⟨rfl, rfl, rfl, rfl, trivial⟩ (show List.Nodup [("rest" : Str)] by decide +kernel) (fun p hp hf => (show ∀ p ∈ _, p.2 = NameKind.free → p.1 ∈ [("rest" : Str)] by decide +kernel) p hp hf))) sc_whole_measure.nd rfl (Or.inl rfl)) (pss_cons (ps_if (pt_cmpR op_eq (pe_callB call_len_seq (by rfl) T.b_len PySem.boot_len (pa_cons (pv 4) pa_nil)) pe_int (nomark _)) (pss_one (ps_ret pe_int)) pss_nil) (pss_cons (ps_set (i := 5) sc_whole_measure.nd rfl (Or.inl rfl) (pe_ix ix_list (pv 4) pe_int (fun _ _ => rfl))) (pss_cons (ps_set (i := 6) sc_whole_measure.nd rfl (Or.inr rfl) (pe_ix ix_list (pv 1) (pv 5) (fun _ _ => rfl))) (pss_cons (ps_if (pt_cmpR op_eq (pe_op op_mod (pv 5) pe_int) pe_int (nomark _)) (pss_one (ps_set (i := 2) sc_whole_measure.nd rfl (Or.inl rfl) (pe_un un_neg (pv 2)))) pss_nil) (pss_cons (ps_set (i := 1) sc_whole_measure.nd rfl (Or.inr rfl) (PCo.pe (coL (pe_op op_cat (pe_slice sl_list (pv 1) po_none (po_some (pv 5))) (pe_slice sl_list (pv 1) (po_some (pe_op op_add (pv 5) pe_int)) po_none)) (fun _ hpi => pe_comp2 ["row"] "head" 6 "before" 3 rfl hpi (fun _ _ _ _ _ => (pg_name (i := 0) (show List.Nodup [("row" : Str), ("head" : Str), ("before" : Str)] by decide +kernel) rfl (Or.inl rfl) (Or.inr rfl)).mo) (fun _ _ _ _ _ => PE.mo (pe_c c_folded (hr.mono (by decide)) np (pa_cons (pv 1) (pa_cons (pv 0) (pa_cons (pv 2) pa_nil))))) rfl rfl rfl rfl rfl rfl rfl rfl rfl)))) (pss_one (ps_set (i := 3) sc_whole_measure.nd rfl (Or.inr rfl) (pe_ix ix_list (pv 6) pe_int (fun _ _ => rfl))))))))))) (pss_one (ps_ret (pe_op op_mulB (pv 2) (pv 3)))))))), ?_⟩
    refine tSeq_step fun N hN => ?_
    walk_at "rd"
    refine hN _ _ ?_
    clear hN N
    refine tSeq_step fun N hN => ?_
    walk_at "rd"
    refine hN _ _ ?_
    clear hN N
    refine tSeq_step fun N hN => ?_
    walk_at "rd"
    refine hN _ _ ?_
    clear hN N
    refine tSeq_step fun N hN => ?_
    walk_at "rd"
    have d0 : Mt.det n (Mt.arI A) = ((1 : Int) : Rat) * Mt.det n (Mt.arI A) := by rw [show ((1 : Int) : Rat) = 1 from rfl, Rat.one_mul]
    refine wh_step (fun σ H' => ∃ (RA : Addr) (sn b : Int) (t m : Nat) (A' R : Nat → Nat → Int) (r4 r5 r6 : Option V), σ = [some (.ref D), some (.ref RA), some (.int sn), some (.int b), r4, r5, r6] ∧ Same H H' ∧ IRows K H' RA m m R ∧ m + t = n ∧ Mt.Ba A' t m R b ∧ (∀ i j, (A' i j).natAbs ≤ X) ∧ (sn = 1 ∨ sn = -1) ∧ Mt.det n (Mt.arI A) = (sn : Rat) * Mt.det n (Mt.arI A')) (fun σ H' => match σ with | [_, some (.ref p), _, _, _, _, _] => (match H' p with | some (.lst xs) => xs.length | _ => 0) | _ => 0) ⟨D, 1, 1, 0, n, A, A, none, none, none, rfl, Same.refl _, hA, rfl, Mt.Ba.start A n, bA, .inl rfl, d0⟩ ?_
    rintro σ H1 ⟨RA, sn, b, t, m, A', R, r4, r5, r6, rfl, s1, ⟨rs, hR, lr, rows⟩, hmt, ba, bA', hsn, hdet⟩ NB hNB
    have fx : ∀ t, t ≤ n → Mt.fact t * X ^ t ≤ Mt.fact n * X ^ n := fun t ht => Nat.mul_le_mul (Mt.fact_mono ht) (Nat.pow_le_pow_right x1 ht)
    have bR : ∀ i, i < m → ∀ j, j < m → Bd 9000 (R i j) := fun i hi j hj => (show (_ : Nat) < _ from Nat.lt_of_le_of_lt (Nat.le_trans (ba.bd bA' hi hj) (fx (t + 1) (by omega))) bX)
    walk_at "rd"
    refine ⟨rs, .inl (SqL.of hR), ?_⟩
    rcases m with _ | m
    · rw [if_neg (by omega)]
      refine hN _ _ ?_
      clear hNB hN NB N
      obtain rfl : t = n := by omega
      have e := ba.end
      have eb : b = Mt.detI t A' := by
        have := Mt.det_int t A'
        rw [show (fun i j => (A' i j : Rat)) = Mt.arI A' from rfl, e] at this
        exact_mod_cast this
      have bb : Bd 9000 b := by rw [eb]; exact (show (_ : Nat) < _ from Nat.lt_of_le_of_lt (Nat.le_trans (Mt.detI_bd t A' bA') (fx t (Nat.le_refl _))) bX)
      walk_at "rd"
      refine ⟨(show Bd 64 sn from (show (_ : Nat) < _ by omega)).mu bb, hq _ _ s1 ?_⟩
      rw [Rat.intCast_mul, hdet, e]
    rw [if_pos (by omega)]
    refine hNB _ _ ?_
    clear hNB NB
    refine tSeq_step fun N hN => ?_
    walk_at "rd"
    refine ⟨rs, .inl (SqL.of hR), by omega, ?_⟩
    rw [lr]
    intro PL nPL
    obtain ⟨pk, epk⟩ : ∃ pk : Nat → Bool, pk = fun j => decide (R j 0 ≠ 0) := ⟨_, rfl⟩
    refine ⟨fun i ys σc H' => (∃ r0, σc = [r0, some (.ref RA)]) ∧ Same H1 H' ∧ H' PL = some (.lst ys) ∧ ys = ((List.range i).filter pk).map fun (j : Nat) => V.int (j : Int), ⟨⟨none, rfl⟩, same_upd nPL, upd_same, rfl⟩, fun _ _ _ _ _ _ => trivial, ?_, ?_⟩
    · rintro i ys σc H2 x hi ⟨⟨r0, rfl⟩, s2, hPL, eys⟩ hx
      obtain ⟨p, ep, hp⟩ := rows i hi
      subst hx
      have ly : ys.length ≤ i := by rw [eys, List.length_map]; exact Nat.le_trans (List.length_filter_le _ _) (by simp)
      have a0 : atI ((List.range (m + 1)).map fun j => V.int (R i j)) 0 = some (.int (R i 0)) := atI_nat (at_range (fun j => V.int (R i j)) (show 0 < m + 1 by omega))
      walk_at "rd"
      refine ⟨rs, s2.seq (SqL.of hR), _, atI_nat ep, p, rfl, _, s2.seq hp, _, a0, rfl, ?_⟩
      rw [List.range_succ, List.filter_append, List.map_append, ← eys]
      by_cases z : R i 0 = 0
      · have pf : pk i = false := by rw [epk]; simp [z]
        refine .inl ⟨by rw [z], s2, hPL, ?_⟩
        rw [List.filter_cons_of_neg (by rw [pf]; decide)]
        simp
      · have pt : pk i = true := by rw [epk]; simp [z]
        refine .inr ⟨fun h => z (by injection h), hPL, small1000 (by omega), s2.updL nPL, upd_same, ?_⟩
        rw [List.filter_cons_of_pos pt]
        rfl
    · rintro ys σc H2 ⟨_, s2, hPL, eys⟩
      refine ⟨hPL, hN _ _ ?_⟩
      clear hN N
      refine tSeq_step fun N hN => ?_
      walk_at "rd"
      refine ⟨ys, .inl (SqL.of hPL), ?_⟩
      by_cases z : ys = []
      · rw [if_pos z]
        refine hq 0 H2 (s1.trans s2) ?_
        have all : ∀ i, i < m + 1 → R i 0 = 0 := fun i hi => by
          have e : (List.range (m + 1)).filter pk = [] := List.map_eq_nil_iff.mp (eys.symm.trans z)
          have := List.filter_eq_nil_iff.mp e i (List.mem_range.mpr hi)
          rw [epk] at this
          simpa using this
        have := ba.none all
        rw [hmt] at this
        rw [hdet, this, Rat.mul_zero]
        rfl
      rw [if_neg z]
      refine hN _ _ ?_
      clear hN N
      obtain ⟨at_, fl, efl⟩ : ∃ at_ fl, (List.range (m + 1)).filter pk = at_ :: fl := List.exists_cons_of_ne_nil fun y => z (by rw [eys, y]; rfl)
      have hmem : at_ ∈ (List.range (m + 1)).filter pk := by rw [efl]; exact List.mem_cons_self
      have hat : at_ < m + 1 := List.mem_range.mp (List.mem_filter.mp hmem).1
      have nz : R at_ 0 ≠ 0 := by
        have := (List.mem_filter.mp hmem).2
        rw [epk] at this
        simpa using this
      rw [efl] at eys
      have ay : atI ys 0 = some (.int at_) := by rw [eys]; exact atI_nat (j := 0) rfl
      clear hmem efl epk z eys
      refine tSeq_step fun N hN => ?_
      walk_at "rd"
      refine ⟨ys, SqL.of hPL, _, ay, hN _ _ ?_⟩
      clear hN N
      obtain ⟨ph, eh, hh⟩ := rows at_ hat
      refine tSeq_step fun N hN => ?_
      walk_at "rd"
      refine ⟨rs, s2.seq (SqL.of hR), _, atI_nat eh, hN _ _ ?_⟩
      clear hN N
      refine tSeq_step fun N hN => ?_
      have next : ∀ sn' : Int, (sn' = 1 ∨ sn' = -1) → Mt.det n (Mt.arI A) = (sn' : Rat) * Mt.det n (Mt.arI fun i j => A' (Mt.ixm t at_ i) j) → N [some (.ref D), some (.ref RA), some (.int sn'), some (.int b), some (.ref PL), some (.int at_), some (.ref ph)] H2 := fun sn' hsn' hdet' => by
        refine hN _ _ ?_
        clear hN N
        have ba' := ba.step hat nz
        refine tSeq_step fun N hN => ?_
        simp [tSeq, tIfS, tTest, tB, tOp, rI, rI0, rEq, rNe, scal, tVar, tC, tCB, tCons, tNil, tNext, tRet, tRetN, L2.start, rIxL, rIxT, rFqI, tAsg, gName, tUn, rU, tNot, tNotV, tAnd, tOr, tAndV, tOrV, tIf, tTup, tLst, tCall, tCallS, tDrop, tForR, tForT, tForL, tForE, tForV, gTup, gCons, gNil, gSub, rSetL, tRaise, tTry, tH, Ends.gone, cσ, CPow, tCoR, tCoL, tCoT, tCoX, tForX, tExcInit, tFs, sXset, tXget, tRaiseI, tJoinRev, tChain, rAll, tHno, cx_K, cxU_K, rIn, tSl, tNoPart, tPart, rAppend, tBM, tForR2, tBM0, rClear, rReverse, tPar, tVs, tCoZ, tCoRH, tHE, tListRev, tForZ, tForVL, tForZL, tForK, tForD, sDPut, tDGet2, tDNewK, tDisp, tPairs, tCoLI, tCoRI, tCoKI, tAugS, ipI, rRep, tBreak, rCat]
        refine ⟨RA, rs, rfl, s2.seq (SqL.of hR), fun p1 n1 => ?_⟩
        rw [cutV_to rs at_ (by omega)]
        have u1 := same_upd (o := .lst (rs.take at_)) n1
        have h1 : upd H2 p1 (.lst (rs.take at_)) p1 = some (.lst (rs.take at_)) := upd_same
        generalize upd H2 p1 (.lst (rs.take at_)) = G1 at u1 h1 ⊢
        refine ⟨RA, rs, rfl, (s2.trans u1).seq (SqL.of hR), fun p2 n2 => ?_⟩
        rw [show ((at_ : Int) + 1) = ((at_ + 1 : Nat) : Int) by omega, cutV_from rs (at_ + 1) (by omega)]
        have u2 := same_upd (o := .lst (rs.drop (at_ + 1))) n2
        have h2 : upd G1 p2 (.lst (rs.drop (at_ + 1))) p2 = some (.lst (rs.drop (at_ + 1))) := upd_same
        generalize upd G1 p2 (.lst (rs.drop (at_ + 1))) = G2 at u2 h2 ⊢
        refine ⟨p1, rfl, p2, rfl, _, u2 _ _ h1, _, h2, sz_le _ (by simp; omega), fun p3 n3 => ⟨_, SqL.of upd_same, ?_⟩⟩
        have u3 := same_upd (o := .lst (rs.take at_ ++ rs.drop (at_ + 1))) n3
        have h3 : upd G2 p3 (.lst (rs.take at_ ++ rs.drop (at_ + 1))) p3 = some (.lst (rs.take at_ ++ rs.drop (at_ + 1))) := upd_same
        generalize upd G2 p3 (.lst (rs.take at_ ++ rs.drop (at_ + 1))) = G3 at u3 h3 ⊢
        have s3 : Same H1 G3 := ((s2.trans u1).trans u2).trans u3
        have ll : (rs.take at_ ++ rs.drop (at_ + 1)).length = m := by simp; omega
        have b0 := ba.bn
        have bb : Bd 9000 b := by rw [ba.bdet]; exact (show (_ : Nat) < _ from Nat.lt_of_le_of_lt (Nat.le_trans (Mt.detI_bd t A' bA') (fx t (by omega))) bX)
        rw [ll]
        refine CO.elsD (fun D' i H' v => ∃ p, v = .ref p ∧ p ≠ D' ∧ H' p = some (.lst ((List.range m).map fun j => V.int ((R at_ 0 * R (Mt.ixm 0 at_ (i + 1)) (j + 1) - R (Mt.ixm 0 at_ (i + 1)) 0 * R at_ (j + 1)).fdiv b)))) (fun D' i H' H'' x s h => let ⟨p, e, ne, z⟩ := h; ⟨p, e, ne, s _ _ z⟩) (fun D' i H' ys o x hD h => let ⟨p, e, ne, z⟩ := h; ⟨p, e, ne, by rw [upd_ne ne]; exact z⟩) (by omega) (fun H' s => s.seq (SqL.of h3)) (fun D' i H' x R' hi sm nD' hD' hx kk => ?_) fun RB H4 xs s4 nB hB lx hxs => hN _ _ ?_
        · rw [Mt.ixm_at lr hat hi] at hx
          have hi' := Mt.ixm_lt (r := at_) hi
          obtain ⟨pr, er, hrow⟩ := rows (Mt.ixm 0 at_ (i + 1)) hi'
          cases er.symm.trans hx
          obtain ⟨ys', hys'⟩ := hD'
          walk_at "rd"
          refine ⟨ph, pr, b, m, R at_, R (Mt.ixm 0 at_ (i + 1)), rfl, (s3.trans sm).seq hh, (s3.trans sm).seq hrow, by omega, b0, bb, fun j hj => bR at_ hat j hj, fun j hj => bR _ hi' j hj, fun D2 H5 s5 n5 h5 => kk _ _ s5 ⟨D2, rfl, fun z => ?_, h5⟩⟩
          rw [z, hys'] at n5
          cases n5
        · clear hN N
          have a0 : atI ((List.range (m + 1)).map fun j => V.int (R at_ j)) 0 = some (.int (R at_ 0)) := atI_nat (at_range (fun j => V.int (R at_ j)) (show 0 < m + 1 by omega))
          walk_at "rd"
          refine ⟨_, (s3.trans s4).seq hh, _, a0, ⟨RB, sn', R at_ 0, ⟨rfl, rfl, rfl⟩, s1.trans (s3.trans s4), t + 1, m, _, _, ⟨xs, hB, lx, fun i hi => ?_⟩, by omega, ba', fun _ _ => bA' _ _, hsn', hdet'⟩, ?_⟩
          · obtain ⟨p, e, _, z⟩ := hxs i xs[i] (by rw [List.getElem?_eq_getElem (by omega)])
            exact ⟨p, by rw [List.getElem?_eq_getElem (by omega), e], SqL.of z⟩
          · rw [hB, hR]
            show xs.length < rs.length
            omega
      clear hN
      have md := Mt.Ba.move A' (t := t) (r := at_) (n := n) (by omega)
      have dA : Mt.det n (Mt.arI A) = ((sn : Rat) * Mt.sg at_) * Mt.det n (Mt.arI fun i j => A' (Mt.ixm t at_ i) j) := by
        rw [md, hdet]
        have := Mt.sg_sq at_
        grind
      walk_at "rd"
      split
      · rename_i ho
        have e : Mt.sg at_ = -1 := by unfold Mt.sg; rw [if_neg (by omega)]
        refine next (-sn) (by omega) ?_
        rw [dA, e, Rat.intCast_neg]
        grind
      · rename_i ho
        have e : Mt.sg at_ = 1 := by unfold Mt.sg; rw [if_pos (by omega)]
        refine next sn hsn ?_
        rw [dA, e]
        grind
abbrev s_measure : Stmt := top 18
theorem sc_measure : FnScope ["table", "rows", "bottoms", "numbers", "bottom"] ["table"] (defScope s_measure) := ⟨rfl, rfl, rfl, by decide +kernel, rfl, by decide +kernel, by decide +kernel⟩
theorem ok_measure {f : Addr} {fd : FuncData} (F : Fun K "measure" "measure" s_measure f fd) (m : mg "measure" = some (.ref f)) (T : Tx w K mg C_NOUGHT C_NoFraction C_NoWeights C_ONE C_TooFar) (c_fraction : Callee P w K mg base 2 "fraction" ["top", "bottom"] (spFraction C_NoFraction)) (c_shared_bottom : Callee P w K mg base 2 "shared_bottom" ["numbers"] (spShBot K)) (c_whole_measure : Callee P w K mg base 2 "whole_measure" ["rows"] (spWM K)) : Callee P w K mg base 3 "measure" ["table"] (spMeas K) := by
  refine ⟨f, fd, ?_, m, F.kp, F.binds fun _ _ _ _ _ _ us hl => match us, hl with | [_], _ => rfl⟩
  refine F.okE sc_measure (fun vs H Q E h => ?_) (fun cdv A outer s H vs Q E hr h => ?_)
  · obtain ⟨_, _, _, _, _, rfl, _⟩ := h
    rfl
  · obtain ⟨TB, n, F, N0, d, rfl, hT, hn, zF, dn, d9, N1, bX, hq⟩ := h
    refine ⟨_, (pss_cons (ps_set (i := 1) sc_measure.nd rfl (Or.inl rfl) (pe_lst pa_nil)) (pss_cons (ps_set (i := 2) sc_measure.nd rfl (Or.inl rfl) pe_int) (pss_cons (ps_forL rfl PassesOwn.never (pv 0) (pg_name (i := 3) sc_measure.nd rfl (Or.inl rfl)) (pss_cons (ps_set (i := 4) sc_measure.nd rfl (Or.inr rfl) (pe_c c_shared_bottom (hr.mono (by decide)) np (pa_cons (pv 3) pa_nil))) (pss_cons (ps_expr (pe_bm PySem.F.plainAttrs_list PySem.F.slot_list_append PySem.F.type_list_append mt_append (pv 1) (pa_cons (PCo.pe (coL (pv 3) (fun _ hpi => pe_comp1 ["number"] "bottom" 4 rfl hpi (fun _ _ _ _ _ => (pg_name (i := 0) (show List.Nodup [("number" : Str), ("bottom" : Str)] by decide +kernel) rfl (Or.inl rfl) (Or.inr rfl)).mo) (fun _ _ _ _ _ => PE.mo (pe_op op_mulB (pe_ix (show IxR _ (rFqI K) from ix_fq) (pv 0) pe_int (fun _ _ => rfl)) (pe_op op_fdivB (pv 1) (pe_ix (show IxR _ (rFqI K) from ix_fq) (pv 0) pe_int (fun _ _ => rfl))))) rfl rfl rfl rfl rfl))) pa_nil))) (pss_one (ps_set (i := 2) sc_measure.nd rfl (Or.inl rfl) (pe_op op_mulB (pv 2) (pv 4))))))) (pss_one (ps_ret (pe_c c_fraction (hr.mono (by decide)) np (pa_cons (pe_c c_whole_measure (hr.mono (by decide)) np (pa_cons (pv 1) pa_nil)) (pa_cons (pv 2) pa_nil)))))))), ?_⟩
    refine tSeq_step fun N hN => ?_
    walk_at "rd"
    refine fun RW nR => hN _ _ ?_
    clear hN N
    have u1 := same_upd (o := .lst []) nR
    have hR0 : upd H RW (.lst []) RW = some (.lst []) := upd_same
    generalize upd H RW (.lst []) = H1 at u1 hR0 ⊢
    refine tSeq_step fun N hN => ?_
    walk_at "rd"
    refine hN _ _ ?_
    clear hN N
    obtain ⟨ts, hTB, lt, rows⟩ := id hT
    refine tSeq_step fun N hN => ?_
    walk_at "rd"
    refine ⟨ts, u1.seq hTB, fun i σ H' => ∃ (bt : Nat) (r3 r4 : Option V) (zs : List V) (bo : Nat → Nat) (R : Nat → Nat → Int), σ = [some (.ref TB), some (.ref RW), some (.int bt), r3, r4] ∧ Same H H' ∧ H' RW = some (.lst zs) ∧ zs.length = i ∧ (∀ j, j < i → ∃ p, zs[j]? = some (.ref p) ∧ p ≠ RW ∧ H' p = some (.lst ((List.range n).map fun c => V.int (R j c)))) ∧ (∀ j, j < i → ∀ c, c < n → F j c * (((bo j : Nat) : Int) : Rat) = (R j c : Rat) ∧ (R j c).natAbs ≤ N0) ∧ (∀ j, 0 < bo j ∧ bo j ≤ 2 ^ d) ∧ bt = Mt.prN bo i, ⟨1, none, none, [], fun _ => 1, fun _ _ => 0, rfl, u1, hR0, rfl, fun j hj => absurd hj (by omega), fun j hj => absurd hj (by omega), fun j => ⟨Nat.one_pos, Nat.one_le_two_pow⟩, rfl⟩, ?_, ?_, ?_⟩
    · rintro i σ H' hi ⟨bt, r3, r4, zs, bo, R, rfl, s2, hRW, lz, rws, rvs, bos, ebt⟩
      exact s2.seq hTB
    · rintro i x σ H2 hx ⟨bt, r3, r4, zs, bo, R, rfl, s2, hRW, lz, rws, rvs, bos, ebt⟩
      have hi : i < ts.length := (List.getElem?_eq_some_iff.mp hx).1
      obtain ⟨p, ys, e, hp, fp⟩ := rows i (by omega)
      cases e.symm.trans hx
      obtain ⟨Di, Di0, Di1, lat⟩ := zF i (by omega)
      refine tSeq_step fun N hN => ?_
      walk_at "rd"
      refine ⟨p, ys, _, Di, rfl, s2.seq hp, fp.same s2, Di0, Nat.le_trans Di1 (Nat.pow_le_pow_right (by decide) d9), fun j hj => ?_, by simp; omega, fun b b0 bdv bD => hN _ _ ?_⟩
      · rw [List.length_map, List.length_range] at hj
        rw [Mt.cf_map_range, if_pos hj]
        exact ((lat j hj).dvd (by omega)).1
      clear hN N
      have bd' : ∀ j, j < n → (F i j).den ∣ b := fun j hj => by
        have := bdv j (by simp; omega)
        rwa [Mt.cf_map_range, if_pos hj] at this
      clear bdv
      have ly := fp.len
      rw [List.length_map, List.length_range] at ly
      have ble : b ≤ 2 ^ d := Nat.le_trans (Nat.le_of_dvd Di0 bD) Di1
      have bb : Bd 8901 (b : Int) := (show (_ : Nat) < _ by
        rw [Int.natAbs_natCast]
        exact Nat.lt_of_le_of_lt ble (Nat.lt_of_le_of_lt (Nat.pow_le_pow_right (by decide) d9) (Nat.pow_lt_pow_right (by decide) (by decide))))
      have N9 : N0 < 2 ^ 9000 := by
        refine Nat.lt_of_le_of_lt ?_ bX
        have h1 : N0 ^ 1 ≤ N0 ^ n := Nat.pow_le_pow_right N1 (by omega)
        rw [Nat.pow_one] at h1
        exact Nat.le_trans h1 (Nat.le_mul_of_pos_left _ (Mt.fact_pos n))
      refine tSeq_step fun N hN => ?_
      walk_at "rd"
      obtain ⟨Rn, eRn⟩ : ∃ Rn : Nat → Int, Rn = fun j => (F i j).num * ((b / (F i j).den : Nat) : Int) := ⟨_, rfl⟩
      have RnV : ∀ j, j < n → F i j * (((b : Nat) : Int) : Rat) = (Rn j : Rat) ∧ (Rn j).natAbs ≤ N0 := fun j hj => by
        obtain ⟨w, ew⟩ := bd' j hj
        have dp : 0 < (F i j).den := Rat.den_pos _
        have e1 : b / (F i j).den = w := by rw [ew, Nat.mul_div_cancel_left _ dp]
        have e2 : F i j * (((b : Nat) : Int) : Rat) = (Rn j : Rat) := by
          rw [eRn]
          show _ = (((F i j).num * ((b / (F i j).den : Nat) : Int) : Int) : Rat)
          rw [e1, ew, Int.natCast_mul, Rat.intCast_mul, Rat.intCast_mul, ← rat_back (F i j)]
          grind
        refine ⟨e2, ?_⟩
        obtain ⟨M, eM, bM⟩ := lat j hj
        obtain ⟨y, ey⟩ := bD
        have y0 : 0 < y := Nat.pos_of_ne_zero fun z => by rw [z, Nat.mul_zero] at ey; omega
        have e3 : Rn j * (y : Int) = M := by
          have : ((Rn j * (y : Int) : Int) : Rat) = (M : Rat) := by
            rw [Rat.intCast_mul, ← e2, ← eM, ey, Int.natCast_mul, Rat.intCast_mul]
            grind
          exact_mod_cast this
        refine Nat.le_trans ?_ bM
        rw [← e3, Int.natAbs_mul, Int.natAbs_natCast]
        exact Nat.le_mul_of_pos_right _ y0
      refine ⟨.inl ⟨rfl, _, SqL.of hRW⟩, ys, s2.seq hp, CO.pure1 (fun j => V.int (Rn j)) (by omega) (fun H' s => s.seq (s2.seq hp)) (fun j H' x R' hj sm hx kk => ?_) fun D' H3 s3 nD' hD' => ⟨zs, s3 _ _ hRW, small1000 (by omega), hN _ _ ?_⟩⟩
      · obtain ⟨pq, eq, fq⟩ := fp.at (j := j) (by simp; omega)
        cases eq.symm.trans hx
        rw [Mt.cf_map_range, if_pos (by omega)] at fq
        have fq' := (fq.same s2).same sm
        have dp : 0 < (F i j).den := Rat.den_pos _
        have fe : ((b : Int)).fdiv ((F i j).den : Int) = ((b / (F i j).den : Nat) : Int) := by rw [Int.fdiv_eq_ediv_of_nonneg _ (by omega)]; rfl
        have nb : Bd 9000 (F i j).num := (show (_ : Nat) < _ from Nat.lt_of_le_of_lt ((lat j (by omega)).dvd (by omega)).2 N9)
        have db : Bd 8901 ((F i j).den : Int) := (show (_ : Nat) < _ by
          have h1 : (((F i j).den : Int)).natAbs ≤ b := by rw [Int.natAbs_natCast]; exact Nat.le_of_dvd b0 (bd' j (by omega))
          have h2 : b < 2 ^ 8901 := by have := bb; rw [show (Bd 8901 (b : Int)) = (((b : Int)).natAbs < 2 ^ 8901) from rfl, Int.natAbs_natCast] at this; exact this
          exact Nat.lt_of_le_of_lt h1 h2)
        have qb : Bd 8901 ((b / (F i j).den : Nat) : Int) := (show (_ : Nat) < _ by
          rw [Int.natAbs_natCast]
          have h2 : b < 2 ^ 8901 := by have := bb; rw [show (Bd 8901 (b : Int)) = (((b : Int)).natAbs < 2 ^ 8901) from rfl, Int.natAbs_natCast] at this; exact this
          exact Nat.lt_of_le_of_lt (Nat.div_le_self _ _) h2)
        walk_at "rd"
        refine ⟨_, fq', _, fq', db.dv (by omega), ?_⟩
        rw [fe]
        exact ⟨nb.mu qb, kk _ _ (by rw [eRn]) (Same.refl _)⟩
      clear hN N
      have hRW3 := s3 _ _ hRW
      walk_at "rd"
      have pbi := Mt.prN_bd bos i
      have btb : Bd 8901 ((bt : Nat) : Int) := (show (_ : Nat) < _ by
        rw [Int.natAbs_natCast, ebt]
        refine Nat.lt_of_le_of_lt pbi.2 (Nat.pow_lt_pow_right (by decide) ?_)
        have := Nat.mul_le_mul_left d (show i ≤ n by omega)
        omega)
      have neD : D' ≠ RW := fun z => by rw [z, hRW] at nD'; cases nD'
      refine ⟨btb.mu bb, bt * b, by rw [Int.natCast_mul], (s2.trans s3).updL nR, _, upd_same, by simp [lz], fun j => if j = i then b else bo j, fun j c => if j = i then Rn c else R j c, fun j hj => ?_, fun j hj c hc => ?_, fun j => ?_, ?_⟩
      · rcases Nat.lt_or_ge j i with y | y
        · obtain ⟨pj, ej, nj, hj'⟩ := rws j y
          refine ⟨pj, by rw [List.getElem?_append_left (by omega)]; exact ej, nj, ?_⟩
          rw [upd_ne nj]
          simp only [if_neg (show ¬ j = i by omega)]
          exact s3 _ _ hj'
        · obtain rfl : j = i := by omega
          refine ⟨D', by rw [List.getElem?_append_right (by omega), lz, Nat.sub_self]; rfl, neD, ?_⟩
          rw [upd_ne neD, hD', ly]
          simp only [if_pos]
      · rcases Nat.lt_or_ge j i with y | y
        · simp only [if_neg (show ¬ j = i by omega)]
          exact rvs j y c hc
        · obtain rfl : j = i := by omega
          simp only [if_pos]
          exact RnV c hc
      · dsimp only
        split
        · exact ⟨b0, ble⟩
        · exact bos j
      · rw [ebt]
        show _ = Mt.prN (fun j => if j = i then b else bo j) i * (if i = i then b else bo i)
        rw [if_pos rfl]
        congr 1
        exact Mt.prN_congr fun j hj => by rw [if_neg (by omega)]
    · rintro σ H2 ⟨bt, r3, r4, zs, bo, R, rfl, s2, hRW, lz, rws, rvs, bos, ebt⟩
      refine hN _ _ ?_
      clear hN N
      walk_at "rd"
      obtain ⟨A, eA⟩ : ∃ A : Nat → Nat → Int, A = fun i j => if i < n ∧ j < n then R i j else 0 := ⟨_, rfl⟩
      have Av : ∀ i, i < n → ∀ j, j < n → A i j = R i j := fun i hi j hj => by rw [eA]; show (if i < n ∧ j < n then R i j else 0) = _; rw [if_pos ⟨hi, hj⟩]
      have lts : ts.length = n := lt
      rw [lts] at lz rws rvs ebt
      have pb := Mt.prN_bd bos n
      refine ⟨RW, n, N0, A, rfl, ⟨zs, hRW, lz, fun i hi => ?_⟩, hn, fun i j => ?_, bX, N1, fun z H3 s3 ez => ?_⟩
      · obtain ⟨p, e, _, h⟩ := rws i hi
        have e2 : ((List.range n).map fun j => V.int (A i j)) = (List.range n).map fun c => V.int (R i c) := List.map_congr_left fun c hc => by rw [Av i hi c (List.mem_range.mp hc)]
        exact ⟨p, e, by rw [e2]; exact SqL.of h⟩
      · rw [eA]
        show (if i < n ∧ j < n then R i j else 0).natAbs ≤ N0
        split
        · rename_i h
          exact (rvs i h.1 j h.2).2
        · exact Nat.zero_le _
      have ed : Mt.det n (Mt.arI A) = ((Mt.prN bo n : Nat) : Int) * Mt.det n F := by
        rw [← Mt.det_rows F bo n (Nat.le_refl _)]
        refine Mt.det_congr fun i hi j hj => ?_
        rw [if_pos hi, (rvs i hi j hj).1]
        show ((A i j : Int) : Rat) = _
        rw [Av i hi j hj]
      have b0 : ((bt : Nat) : Int) ≠ 0 := by rw [ebt]; omega
      refine ⟨z, _, rfl, (show (_ : Nat) < _ by
        rw [Int.natAbs_natCast, ebt]
        exact Nat.lt_of_le_of_lt pb.2 (Nat.pow_lt_pow_right (by decide) (by omega))), fun y => absurd y b0, fun _ p u v np red => ?_⟩
      refine hq p _ ((s2.trans s3).trans (same_upd np)) ((s2.trans s3).free np) ?_
      have ef : Mt.det n F = Rat.divInt z (bt : Int) := by
        have b0' : (((bt : Nat) : Int) : Rat) ≠ 0 := fun y => b0 (by exact_mod_cast y)
        rw [Rat.divInt_eq_div, ez, ed, ← ebt, Rat.div_def]
        have := Rat.mul_inv_cancel _ b0'
        grind
      rw [ef, upd_same]
      obtain ⟨w, ew⟩ : ∃ w : Nat, v = (w : Int) := ⟨v.toNat, by have := red.pos; omega⟩
      subst ew
      have wn : w ≠ 0 := by have := red.pos; omega
      have cp : u.natAbs.Coprime w := by
        have := red.low
        rw [Int.gcd, Int.natAbs_natCast] at this
        exact this
      have e : Rat.divInt z (bt : Int) = ⟨u, w, wn, cp⟩ := by
        rw [Rat.mk_eq_divInt]
        exact (Rat.divInt_eq_divInt_iff b0 (by omega)).mpr red.eq.symm
      rw [e]
      rfl
abbrev s_weights_of : Stmt := top 21
theorem sc_weights_of : FnScope ["levels", "downs"] ["levels", "downs"] (defScope s_weights_of) := ⟨rfl, rfl, rfl, by decide +kernel, rfl, by decide +kernel, by decide +kernel⟩
theorem ok_weights_of {f : Addr} {fd : FuncData} (F : Fun K "weights_of" "weights_of" s_weights_of f fd) (m : mg "weights_of" = some (.ref f)) (T : Tx w K mg C_NOUGHT C_NoFraction C_NoWeights C_ONE C_TooFar) : Callee P w K mg base 1 "weights_of" ["levels", "downs"] (spWof K C_NoWeights) := by
  refine ⟨f, fd, ?_, m, F.kp, F.binds fun _ _ _ _ _ _ us hl => match us, hl with | [_, _], _ => rfl⟩
  refine F.okX sc_weights_of (fun vs H Q E h => ?_) (fun cdv A outer s H vs Q E hr h => ?_)
  · obtain ⟨_, _, _, _, _, _, rfl, _⟩ := h
    rfl
  · obtain ⟨D1, D2, x1, x2, f1, f2, rfl, d1, d2, k1, k2, h0, h1⟩ := h
    refine ⟨_, (pss_cons (ps_if (pt_cmpR op_ne (pe_callB call_len_seq (by rfl) T.b_len PySem.boot_len (pa_cons (pv 0) pa_nil)) (pe_op op_add (pe_callB call_len_seq (by rfl) T.b_len PySem.boot_len (pa_cons (pv 1) pa_nil)) pe_int) (nomark _)) (pss_one (ps_raise raises_cx rfl rfl T.m_NoWeights T.x_NoWeights (pa_cons pe_str pa_nil))) pss_nil) (pss_cons (ps_if (pt_cmpR op_gt (pe_callB call_len_seq (by rfl) T.b_len PySem.boot_len (pa_cons (pv 0) pa_nil)) (pe_globI T.g_MOST) (nomark _)) (pss_one (ps_raise raises_cx rfl rfl T.m_NoWeights T.x_NoWeights (pa_cons pe_str pa_nil))) pss_nil) (pss_one (ps_ret (pe_tup (pa_cons (pe_callTy call_tuple_of (by rfl) T.b_tuple (by decide +kernel) (pa_cons (pv 0) pa_nil)) (pa_cons (pe_callTy call_tuple_of (by rfl) T.b_tuple (by decide +kernel) (pa_cons (pv 1) pa_nil)) pa_nil))))))), ?_⟩
    have l1 := k1.len
    have l2 := k2.len
    walk_at "rd"
    refine ⟨x1, .inl (SqL.of d1), x2, .inl (SqL.of d2), ?_⟩
    by_cases z : (x1.length : Int) = x2.length + 1
    · refine .inl ⟨z, x1, .inl (SqL.of d1), ?_⟩
      split
      · rename_i y
        exact ⟨sz_le 1 (by decide), h0 (by omega)⟩
      · rename_i y
        refine ⟨x1, .inl ⟨SqL.of d1, fun A nA => ⟨x2, .inl ⟨SqL.of (same_upd nA _ _ d2), fun B nB => ⟨sz_le 2 (by decide), fun w nw => ?_⟩⟩⟩⟩⟩
        have sA := same_upd (o := .tup x1) nA
        have sB := same_upd (o := .tup x2) nB
        have sw := same_upd (o := .tup [.ref A, .ref B]) nw
        have st := (sA.trans sB).trans sw
        exact h1 (by omega) (by omega) w _ st ⟨A, B, SqT.of upd_same, ⟨x1, SqT.of (sw _ _ (sB _ _ upd_same)), k1.same st⟩, ⟨x2, SqT.of (sw _ _ upd_same), k2.same st⟩⟩
    · exact .inr ⟨z, sz_le 1 (by decide), h0 (by omega)⟩
abbrev s_height_of : Stmt := top 22
theorem sc_height_of : FnScope ["weights"] ["weights"] (defScope s_height_of) := ⟨rfl, rfl, rfl, by decide +kernel, rfl, by decide +kernel, by decide +kernel⟩
theorem ok_height_of {f : Addr} {fd : FuncData} (F : Fun K "height_of" "height_of" s_height_of f fd) (m : mg "height_of" = some (.ref f)) (T : Tx w K mg C_NOUGHT C_NoFraction C_NoWeights C_ONE C_TooFar) : Callee P w K mg base 1 "height_of" ["weights"] (spHof K) := by
  refine ⟨f, fd, ?_, m, F.kp, F.binds fun _ _ _ _ _ _ us hl => match us, hl with | [_], _ => rfl⟩
  refine F.okE sc_height_of (fun vs H Q E h => ?_) (fun cdv A outer s H vs Q E hr h => ?_)
  · obtain ⟨_, _, _, rfl, _⟩ := h
    rfl
  · obtain ⟨w, L, D, rfl, ⟨a, b, hw, hL, ⟨ys, hy, fy⟩⟩, hq⟩ := h
    refine ⟨_, (pss_one (ps_ret (pe_callB call_len_seq (by rfl) T.b_len PySem.boot_len (pa_cons (pe_ix ix_tup (pv 0) pe_int (fun _ _ => rfl)) pa_nil)))), ?_⟩
    have l2 := fy.len
    walk_at "rd"
    refine ⟨_, hw, _, rfl, b, rfl, ys, .inr hy, ?_⟩
    rw [← l2]
    exact hq
abbrev s_check_reach : Stmt := top 24
theorem sc_check_reach : FnScope ["weights", "length", "first", "last", "below", "k", "kept_low"] ["weights", "length", "first", "last", "below"] (defScope s_check_reach) := ⟨rfl, rfl, rfl, by decide +kernel, rfl, by decide +kernel, by decide +kernel⟩
theorem ok_check_reach {f : Addr} {fd : FuncData} (F : Fun K "check_reach" "check_reach" s_check_reach f fd) (m : mg "check_reach" = some (.ref f)) (T : Tx w K mg C_NOUGHT C_NoFraction C_NoWeights C_ONE C_TooFar) (c_height_of : Callee P w K mg base 1 "height_of" ["weights"] (spHof K)) : Callee P w K mg base 2 "check_reach" ["weights", "length", "first", "last", "below"] (spReach K C_TooFar) := by
  refine ⟨f, fd, ?_, m, F.kp, F.binds fun _ _ _ _ _ _ us hl => match us, hl with | [_, _, _, _, _], _ => rfl⟩
  refine F.okX sc_check_reach (fun vs H Q E h => ?_) (fun cdv A outer s H vs Q E hr h => ?_)
  · obtain ⟨_, _, _, _, _, _, _, rfl, _⟩ := h
    rfl
  · obtain ⟨w, L, D, n, i, j, bl, rfl, hw, hb, h0, h1⟩ := h
    refine ⟨_, (pss_cons (ps_set (i := 5) sc_check_reach.nd rfl (Or.inl rfl) (pe_c c_height_of (hr.mono (by decide)) pass_cx (pa_cons (pv 0) pa_nil))) (pss_cons (ps_set (i := 6) sc_check_reach.nd rfl (Or.inl rfl) (pe_and (pe_cmpR op_notN (pv 4) pe_non (nomark _)) (pe_one (pe_cmpR op_le (pv 4) (pe_op op_add (pv 5) pe_int) (nomark _))))) (pss_one (ps_if (PW.pt (pw_and (pt_not (pt_val (pv 6))) (pw_and1 (pt_cmpR op_gt (pe_op op_add (pe_op op_add (pv 1) (pv 2)) (pv 3)) (pe_op op_add (pe_op op_mul pe_int (pv 5)) pe_int) (nomark _))))) (pss_one (ps_raise raises_cx rfl rfl T.m_TooFar T.x_TooFar (pa_cons pe_str pa_nil))) pss_nil)))), ?_⟩
    refine tSeq_step fun N hN => ?_
    walk_at "rd"
    refine ⟨w, L, D, rfl, hw, hN _ _ ?_⟩
    clear hN N
    refine tSeq_step fun N hN => ?_
    have fin : N [some (.ref w), some (.int n), some (.int i), some (.int j), some bl, some (.int D.length), some (.bl (lowOf D.length bl))] H := by
      refine hN _ _ ?_
      unfold tooFar at h0 h1
      cases z : lowOf D.length bl
      · rw [z] at h0 h1
        walk_at "rd"
        refine ⟨.inl ⟨by decide, by decide⟩, ?_⟩
        split
        · rename_i y
          exact ⟨sz_le 1 (by decide), h0 (by simp; omega)⟩
        · rename_i y
          exact h1 (by simp; omega)
      · rw [z] at h0 h1
        walk_at "rd"
        exact h1 rfl
    clear hN
    rcases hb with rfl | ⟨b, rfl⟩
    · walk_at "rd"
      exact fin
    · walk_at "rd"
      simpa [lowOf] using fin
abbrev s_one_step_on : Stmt := top 25
theorem sc_one_step_on : FnScope ["weights", "sums", "after", "height", "total"] ["weights", "sums"] (defScope s_one_step_on) := ⟨rfl, rfl, rfl, by decide +kernel, rfl, by decide +kernel, by decide +kernel⟩
theorem ok_one_step_on {f : Addr} {fd : FuncData} (F : Fun K "one_step_on" "one_step_on" s_one_step_on f fd) (m : mg "one_step_on" = some (.ref f)) (T : Tx w K mg C_NOUGHT C_NoFraction C_NoWeights C_ONE C_TooFar) (c_plus : Callee P w K mg base 2 "plus" ["a", "b"] (spBin K (fun a b => a + b))) (c_times : Callee P w K mg base 2 "times" ["a", "b"] (spBin K (fun a b => a * b))) : Callee P w K mg base 3 "one_step_on" ["weights", "sums"] (spStepOn K) := by
  refine ⟨f, fd, ?_, m, F.kp, F.binds fun _ _ _ _ _ _ us hl => match us, hl with | [_, _], _ => rfl⟩
  refine F.okE sc_one_step_on (fun vs H Q E h => ?_) (fun cdv A outer s H vs Q E hr h => ?_)
  · obtain ⟨_, _, _, _, _, _, rfl, _⟩ := h
    rfl
  · obtain ⟨pw, ps, L, D, f, xs, rfl, hw, hs, hf, t1, t2, t3, sf, sL, sD, hq⟩ := h
    refine ⟨_, (pss_cons (ps_set (i := 2) sc_one_step_on.nd rfl (Or.inl rfl) (pe_lst pa_nil)) (pss_cons (ps_forR rfl PassesOwn.never T.b_range (pe_callB call_len_seq (by rfl) T.b_len PySem.boot_len (pa_cons (pv 1) pa_nil)) (pg_name (i := 3) sc_one_step_on.nd rfl (Or.inl rfl)) (pss_cons (ps_set (i := 4) sc_one_step_on.nd rfl (Or.inl rfl) (pe_c c_times (hr.mono (by decide)) np (pa_cons (pe_ix ix_list (pv 1) (pv 3) (fun _ _ => rfl)) (pa_cons (pe_ix ix_tup (pe_ix ix_tup (pv 0) pe_int (fun _ _ => rfl)) (pv 3) (fun _ _ => rfl)) pa_nil)))) (pss_cons (ps_if (pt_cmpR op_gt (pv 3) pe_int (nomark _)) (pss_one (ps_set (i := 4) sc_one_step_on.nd rfl (Or.inl rfl) (pe_c c_plus (hr.mono (by decide)) np (pa_cons (pv 4) (pa_cons (pe_ix ix_list (pv 1) (pe_op op_sub (pv 3) pe_int) (fun _ _ => rfl)) pa_nil))))) pss_nil) (pss_cons (ps_if (pt_cmpR op_lt (pe_op op_add (pv 3) pe_int) (pe_callB call_len_seq (by rfl) T.b_len PySem.boot_len (pa_cons (pv 1) pa_nil)) (nomark _)) (pss_one (ps_set (i := 4) sc_one_step_on.nd rfl (Or.inl rfl) (pe_c c_plus (hr.mono (by decide)) np (pa_cons (pv 4) (pa_cons (pe_c c_times (hr.mono (by decide)) np (pa_cons (pe_ix ix_list (pv 1) (pe_op op_add (pv 3) pe_int) (fun _ _ => rfl)) (pa_cons (pe_ix ix_tup (pe_ix ix_tup (pv 0) pe_int (fun _ _ => rfl)) (pv 3) (fun _ _ => rfl)) pa_nil))) pa_nil))))) pss_nil) (pss_one (ps_expr (pe_bm PySem.F.plainAttrs_list PySem.F.slot_list_append PySem.F.type_list_append mt_append (pv 2) (pa_cons (pv 4) pa_nil)))))))) (pss_one (ps_ret (pv 2))))), ?_⟩
    obtain ⟨wa, wb, hw0, ⟨us, hu, fu⟩, ⟨vs, hv, fv⟩⟩ := id hw
    have l1 := hf.len
    have l2 := fu.len
    have l3 := fv.len
    refine tSeq_step fun N hN => ?_
    walk_at "rd"
    refine fun A nA => hN _ _ ?_
    clear hN N
    have sA := same_upd (o := .lst []) nA
    refine tSeq_step fun N hN => ?_
    walk_at "rd"
    refine ⟨xs, .inl (SqL.of (sA _ _ hs)), by omega, fun i σ H' => ∃ r3 r4 ys, σ = [some (.ref pw), some (.ref ps), some (.ref A), r3, r4] ∧ Same H H' ∧ H' A = some (.lst ys) ∧ Frs K H' ((List.range i).map fun h => Mt.wk (Mt.cf L) (Mt.cf D) (Mt.cf f) f.length h) ys, ⟨none, none, [], rfl, sA, upd_same, Frs.nil⟩, ?_, ?_⟩
    · rintro i σ H1 hi ⟨r3, r4, ys, rfl, sm, hA, fy⟩
      have ly := fy.len
      simp only [List.length_map, List.length_range] at ly
      have hi2 : i < f.length := by omega
      obtain ⟨p1, e1, q1⟩ := hf.at hi2
      obtain ⟨p2, e2, q2⟩ := fu.at (j := i) (by omega)
      have a1 := atI_nat e1
      have a2 := atI_nat e2
      refine tSeq_step fun N hN => ?_
      walk_at "rd"
      refine ⟨xs, SqL.of (sm _ _ hs), _, a1, _, sm.seqT hw0, _, rfl, wa, rfl, us, sm.seqT hu, _, a2, p1, p2, _, _, rfl, q1.same sm, q2.same sm, (sf i).mono (by decide), (sL i).mono (by decide), fun p3 H3 s3 n3 h3 => hN _ _ ?_⟩
      clear hN N
      have t3' := sm.trans s3
      have z1 : Sz 2600 (Mt.cf f i * Mt.cf L i) := (sf i).mul (sL i)
      refine tSeq_step fun N hN => ?_
      have second : ∀ r x H4, Same H3 H4 → Fq K H4 r x → Sz 3901 x → x = Mt.cf f i * Mt.cf L i + (if 0 < i then Mt.cf f (i - 1) else 0) → N [some (.ref pw), some (.ref ps), some (.ref A), some (.int i), some (.ref r)] H4 := by
        intro r x H4 s4 hr4 zx ex
        refine hN _ _ ?_
        clear hN N
        have t4 := t3'.trans s4
        refine tSeq_step fun N hN => ?_
        have third : ∀ r x H5, Same H4 H5 → Fq K H5 r x → x = Mt.wk (Mt.cf L) (Mt.cf D) (Mt.cf f) f.length i → N [some (.ref pw), some (.ref ps), some (.ref A), some (.int i), some (.ref r)] H5 := by
          intro r x H5 s5 hr5 ex
          refine hN _ _ ?_
          clear hN N
          have hA5 := s5 _ _ (s4 _ _ (s3 _ _ hA))
          walk_at "rd"
          refine ⟨.inl ⟨rfl, _, SqL.of hA5⟩, _, hA5, small1000 (by omega), (t4.trans s5).updL nA, _, upd_same, ?_⟩
          rw [List.range_succ, List.map_append]
          refine Frs.snoc (Frs.updL hA5 (((fy.same s3).same s4).same s5)) (SqT.updL hA5 ?_)
          subst ex
          exact hr5
        clear hN
        walk_at "rd"
        refine ⟨xs, .inl (SqL.of (t4 _ _ hs)), ?_⟩
        split
        · rename_i y
          obtain ⟨p5, e5, q5⟩ := hf.at (j := i + 1) (by omega)
          obtain ⟨p6, e6, q6⟩ := fv.at (j := i) (by omega)
          have a5 := atI_nat e5
          have a6 := atI_nat e6
          refine ⟨xs, SqL.of (t4 _ _ hs), _, a5, _, t4.seqT hw0, _, rfl, wb, rfl, vs, t4.seqT hv, _, a6, p5, p6, _, _, rfl, q5.same t4, q6.same t4, (sf _).mono (by decide), (sD _).mono (by decide), fun p7 H7 s7 n7 h7 => ?_⟩
          refine ⟨r, p7, x, _, rfl, hr4.same s7, Fq.of h7, zx.mono (by decide), ((sf _).mul (sD _)).mono (by decide), fun p8 H8 s8 n8 h8 => third p8 _ H8 (s7.trans s8) (Fq.of h8) ?_⟩
          rw [ex]
          unfold Mt.wk
          rw [if_pos (show i + 1 < f.length by omega)]
        · rename_i y
          refine third r x H4 (Same.refl _) hr4 ?_
          rw [ex]
          unfold Mt.wk
          rw [if_neg (show ¬ i + 1 < f.length by omega)]
          grind
      clear hN
      walk_at "rd"
      split
      · rename_i y
        obtain ⟨p5, e5, q5⟩ := hf.at (j := i - 1) (by omega)
        have a5 := atI_nat e5
        rw [show ((i - 1 : Nat) : Int) = (i : Int) - 1 by omega] at a5
        refine ⟨xs, SqL.of (t3' _ _ hs), _, a5, p3, p5, _, _, rfl, Fq.of h3, q5.same t3', z1.mono (by decide), (sf _).mono (by decide), fun p6 H6 s6 n6 h6 => second p6 _ H6 s6 (Fq.of h6) (z1.add (sf _)) ?_⟩
        rw [if_pos (by omega)]
      · rename_i y
        refine second p3 _ H3 (Same.refl _) (Fq.of h3) (z1.mono (by decide)) ?_
        rw [if_neg (by omega)]
        grind
    · rintro σ H1 ⟨r3, r4, ys, rfl, sm, hA, fy⟩
      refine hN _ _ ?_
      walk_at "rd"
      rw [← l1] at fy
      exact hq A H1 ys sm nA hA fy
abbrev s_sum_stepped : Stmt := top 26
theorem sc_sum_stepped : FnScope ["weights", "length", "first", "last", "below", "bound", "sums", "step"] ["weights", "length", "first", "last", "below"] (defScope s_sum_stepped) := ⟨rfl, rfl, rfl, by decide +kernel, rfl, by decide +kernel, by decide +kernel⟩
theorem ok_sum_stepped {f : Addr} {fd : FuncData} (F : FunD K "sum_stepped" "sum_stepped" s_sum_stepped [.int 0, .int 0, .non] f fd) (m : mg "sum_stepped" = some (.ref f)) (T : Tx w K mg C_NOUGHT C_NoFraction C_NoWeights C_ONE C_TooFar) (c_check_reach : Callee P w K mg base 2 "check_reach" ["weights", "length", "first", "last", "below"] (spReach K C_TooFar)) (c_height_of : Callee P w K mg base 1 "height_of" ["weights"] (spHof K)) (c_one_step_on : Callee P w K mg base 3 "one_step_on" ["weights", "sums"] (spStepOn K)) : CalleeD P w K mg base 4 "sum_stepped" ["weights", "length", "first", "last", "below"] [.int 0, .int 0, .non] (spStepped K) := by
  refine F.callee m ?_ ?_
  rotate_left
  · intro i hi T kV doc pm an cdv ct items us hl hz
    obtain ⟨l⟩ := items
    have hl2 : l.length = 3 := hl
    have hi2 : i ≤ 3 := hi
    have hz2 : us.length = 2 + i := by simp at hz; omega
    clear hz hl hi
    match l, hl2 with
    | [_, _, _], _ =>
      rcases (show i = 0 ∨ i = 1 ∨ i = 2 ∨ i = 3 by omega) with rfl | rfl | rfl | rfl
      · match us, hz2 with | [_, _], _ => exact ⟨_, rfl, rfl⟩
      · match us, hz2 with | [_, _, _], _ => exact ⟨_, rfl, rfl⟩
      · match us, hz2 with | [_, _, _, _], _ => exact ⟨_, rfl, rfl⟩
      · match us, hz2 with | [_, _, _, _, _], _ => exact ⟨_, rfl, rfl⟩
  refine F.okE sc_sum_stepped (fun vs H Q E h => ?_) (fun cdv A outer s H vs Q E hr h => ?_)
  · obtain ⟨_, _, _, _, _, _, _, rfl, _⟩ := h
    rfl
  · obtain ⟨w, L, D, n, i, j, bl, rfl, hw, ws, hb, hn, ok, h1⟩ := h
    refine ⟨_, (pss_cons (ps_expr (pe_c c_check_reach (hr.mono (by decide)) np (pa_cons (pv 0) (pa_cons (pv 1) (pa_cons (pv 2) (pa_cons (pv 3) (pa_cons (pv 4) pa_nil))))))) (pss_cons (ps_set (i := 5) sc_sum_stepped.nd rfl (Or.inl rfl) (pe_op op_add (pe_c c_height_of (hr.mono (by decide)) np (pa_cons (pv 0) pa_nil)) pe_int)) (pss_cons (ps_if (pt_cmpR op_notN (pv 4) pe_non (nomark _)) (pss_one (ps_set (i := 5) sc_sum_stepped.nd rfl (Or.inl rfl) (pe_callB (call_min2 rfl) (by rfl) T.b_min (by decide +kernel) (pa_cons (pv 5) (pa_cons (pv 4) pa_nil))))) pss_nil) (pss_cons (ps_if (PW.pt (pw_or (pt_cmpR op_lt (pv 1) pe_int (nomark _)) (pw_or1 (pt_not (pt_chain op_le op_lt pe_int (pv 3) (pv 5)))))) (pss_one (ps_ret (pe_glob (v := .ref C_NOUGHT) rfl T.m_NOUGHT rfl))) pss_nil) (pss_cons (PCo.ps (i := 6) (coR T.b_range (pv 5) (fun _ hpi => pe_comp1 ["height"] "first" 2 rfl hpi (fun _ _ _ _ _ => (pg_name (i := 0) (show List.Nodup [("height" : Str), ("first" : Str)] by decide +kernel) rfl (Or.inl rfl) (Or.inr rfl)).mo) (fun _ _ _ _ _ => PE.mo (pe_ifExp (pt_cmpR op_eq (pv 0) (pv 1) (nomark _)) (pe_glob (v := .ref C_ONE) rfl T.m_ONE rfl) (pe_glob (v := .ref C_NOUGHT) rfl T.m_NOUGHT rfl))) rfl rfl rfl rfl rfl)) sc_sum_stepped.nd rfl (Or.inl rfl)) (pss_cons (ps_forR rfl PassesOwn.never T.b_range (pv 1) (pg_name (i := 7) sc_sum_stepped.nd rfl (Or.inl rfl)) (pss_one (ps_set (i := 6) sc_sum_stepped.nd rfl (Or.inl rfl) (pe_c c_one_step_on (hr.mono (by decide)) np (pa_cons (pv 0) (pa_cons (pv 6) pa_nil)))))) (pss_one (ps_ret (pe_ix ix_list (pv 6) (pv 3) (fun _ _ => rfl)))))))))), ?_⟩
    refine tSeq_step fun N hN => ?_
    walk_at "rd"
    refine ⟨w, L, D, n, i, j, bl, rfl, hw, hb, (fun z => by rw [ok] at z; cases z), fun _ => hN _ _ ?_⟩
    clear hN N
    refine tSeq_step fun N hN => ?_
    walk_at "rd"
    refine ⟨w, L, D, rfl, hw, _, rfl, hN _ _ ?_⟩
    clear hN N
    refine tSeq_step fun N hN => ?_
    have fin : N [some (.ref w), some (.int n), some (.int i), some (.int j), some bl, some (.int (bdOf D.length bl)), none, none] H := by
      refine hN _ _ ?_
      clear hN N
      refine tSeq_step fun N hN => ?_
      have hn0 : ¬ ((n : Int) < 0) := by omega
      by_cases hj : j < bdOf D.length bl
      case neg =>
        have e1 : ¬ ((j : Int) < ((bdOf D.length bl : Nat) : Int)) := by omega
        simp [tSeq, tIfS, tTest, tB, tOp, rI, rI0, rEq, rNe, scal, tVar, tC, tCB, tCons, tNil, tNext, tRet, tRetN, L2.start, rIxL, rIxT, rFqI, tAsg, gName, tUn, rU, tNot, tNotV, tAnd, tOr, tAndV, tOrV, tIf, tTup, tLst, tCall, tCallS, tDrop, tForR, tForT, tForL, tForE, tForV, gTup, gCons, gNil, gSub, rSetL, tRaise, tTry, tH, Ends.gone, cσ, CPow, tCoR, tCoL, tCoT, tCoX, tForX, tExcInit, tFs, sXset, tXget, tRaiseI, tJoinRev, tChain, rAll, tHno, cx_K, cxU_K, rIn, tSl, tNoPart, tPart, rAppend, tBM, tForR2, tBM0, rClear, rReverse, tPar, tVs, tCoZ, tCoRH, tHE, tListRev, tForZ, tForVL, tForZL, tForK, tForD, sDPut, tDGet2, tDNewK, tDisp, tPairs, tCoLI, tCoRI, tCoKI, tAugS, ipI, rRep, tBreak, e1]
        refine h1 C_NOUGHT H (Same.refl _) ?_
        rw [Mt.sm_ge (by omega)]
        exact T.nought H
      have e1 : ((j : Int) < ((bdOf D.length bl : Nat) : Int)) := by omega
      have tl : bdOf D.length bl ≤ D.length + 1 := by
        unfold bdOf
        split <;> omega
      have wm := ws.m
      have wn := ws.n
      generalize bdOf D.length bl = top at hj e1 h1 hN tl ⊢
      simp [tSeq, tIfS, tTest, tB, tOp, rI, rI0, rEq, rNe, scal, tVar, tC, tCB, tCons, tNil, tNext, tRet, tRetN, L2.start, rIxL, rIxT, rFqI, tAsg, gName, tUn, rU, tNot, tNotV, tAnd, tOr, tAndV, tOrV, tIf, tTup, tLst, tCall, tCallS, tDrop, tForR, tForT, tForL, tForE, tForV, gTup, gCons, gNil, gSub, rSetL, tRaise, tTry, tH, Ends.gone, cσ, CPow, tCoR, tCoL, tCoT, tCoX, tForX, tExcInit, tFs, sXset, tXget, tRaiseI, tJoinRev, tChain, rAll, tHno, cx_K, cxU_K, rIn, tSl, tNoPart, tPart, rAppend, tBM, tForR2, tBM0, rClear, rReverse, tPar, tVs, tCoZ, tCoRH, tHE, tListRev, tForZ, tForVL, tForZL, tForK, tForD, sDPut, tDGet2, tDNewK, tDisp, tPairs, tCoLI, tCoRI, tCoKI, tAugS, ipI, rRep, tBreak, e1]
      refine hN _ _ ?_
      clear hN N
      refine tSeq_step fun N hN => ?_
      walk_at "rd"
      refine ⟨by omega, CO.frs (K := K) (fun h => if h = i then 1 else 0) (by omega) (fun _ _ => trivial) (fun h H' x R hh sm hx kk => ?_) fun S H1 xs s1 nS hS hfr => hN _ _ ?_⟩
      · subst hx
        walk_at "rd"
        by_cases z : h = i
        · rw [if_pos (by omega)]
          exact kk _ _ (Same.refl _) (by rw [if_pos z]; exact T.one _)
        · rw [if_neg (by omega)]
          exact kk _ _ (Same.refl _) (by rw [if_neg z]; exact T.nought _)
      clear hN N
      refine tSeq_step fun N hN => ?_
      walk_at "rd"
      refine ⟨by omega, fun m σ H' => ∃ S ys r7, σ = [some (.ref w), some (.int n), some (.int i), some (.int j), some bl, some (.int top), some (.ref S), r7] ∧ Same H H' ∧ H' S = some (.lst ys) ∧ Frs K H' (Mt.row (Mt.cf L) (Mt.cf D) top i m) ys, ⟨S, xs, none, rfl, s1, hS, hfr⟩, ?_, ?_⟩
      · rintro m σ H2 hm ⟨S, ys, r7, rfl, s2, hS, hfr⟩
        have rl := Mt.row_len (Mt.cf L) (Mt.cf D) top i m
        walk_at "rd"
        refine ⟨w, S, L, D, _, ys, rfl, hw.same s2, hS, hfr, by omega, by omega, by omega, fun h => ws.sm (by omega) top i h, ws.sL, ws.sD, fun S' H3 zs s3 n3 h3 f3 => ?_⟩
        rw [rl] at f3
        exact ⟨S', rfl, s2.trans s3, zs, h3, f3⟩
      · rintro σ H2 ⟨S, ys, r7, rfl, s2, hS, hfr⟩
        refine hN _ _ ?_
        obtain ⟨p, e, q⟩ := hfr.at (j := j) (by rw [Mt.row_len]; omega)
        have a1 := atI_nat e
        walk_at "rd"
        exact ⟨ys, SqL.of hS, _, a1, h1 p H2 s2 q⟩
    clear hN
    rcases hb with rfl | ⟨b, rfl⟩
    · walk_at "rd"
      exact fin
    · walk_at "rd"
      refine ⟨_, _, ⟨rfl, rfl⟩, ?_⟩
      have e : (if (b : Int) < (D.length : Int) + 1 then (b : Int) else (D.length : Int) + 1) = ((bdOf D.length (.int b) : Nat) : Int) := by
        simp only [bdOf]
        split <;> omega
      rw [e]
      exact fin
abbrev s_moments : Stmt := top 27
theorem sc_moments : FnScope ["weights"] ["weights"] (defScope s_moments) := ⟨rfl, rfl, rfl, by decide +kernel, rfl, by decide +kernel, by decide +kernel⟩
theorem ok_moments {f : Addr} {fd : FuncData} (F : Fun K "moments" "moments" s_moments f fd) (m : mg "moments" = some (.ref f)) (T : Tx w K mg C_NOUGHT C_NoFraction C_NoWeights C_ONE C_TooFar) (c_height_of : Callee P w K mg base 1 "height_of" ["weights"] (spHof K)) (c_sum_stepped : CalleeD P w K mg base 4 "sum_stepped" ["weights", "length", "first", "last", "below"] [.int 0, .int 0, .non] (spStepped K)) : Callee P w K mg base 5 "moments" ["weights"] (spMoments K) := by
  refine ⟨f, fd, ?_, m, F.kp, F.binds fun _ _ _ _ _ _ us hl => match us, hl with | [_], _ => rfl⟩
  refine F.okE sc_moments (fun vs H Q E h => ?_) (fun cdv A outer s H vs Q E hr h => ?_)
  · obtain ⟨_, _, _, rfl, _⟩ := h
    rfl
  · obtain ⟨w, L, D, rfl, hw, ws, hq⟩ := h
    refine ⟨_, (pss_one (ps_ret (PCo.pe (coR T.b_range (pe_op op_add (pe_op op_mul pe_int (pe_c c_height_of (hr.mono (by decide)) np (pa_cons (pv 0) pa_nil))) pe_int) (fun _ hpi => pe_comp1 ["length"] "weights" 0 rfl hpi (fun _ _ _ _ _ => (pg_name (i := 0) (show List.Nodup [("length" : Str), ("weights" : Str)] by decide +kernel) rfl (Or.inl rfl) (Or.inr rfl)).mo) (fun _ _ _ _ _ => PE.mo (pe_cD 0 c_sum_stepped (hr.mono (by decide)) np (pa_cons (pv 1) (pa_cons (pv 0) pa_nil)))) rfl rfl rfl rfl rfl))))), ?_⟩
    have wm := ws.m
    walk_at "rd"
    refine ⟨w, L, D, rfl, hw, _, rfl, .inl ⟨by decide, by decide⟩, by omega, by omega, ?_⟩
    rw [show (2 * (D.length : Int) + 2).toNat = 2 * D.length + 2 by omega]
    refine CO.frs (K := K) (fun n => Mt.sm (Mt.cf L) (Mt.cf D) (D.length + 1) 0 n 0) (by omega) (fun _ _ => trivial) (fun n H' x R hn sm hx kk => ?_) fun S H1 xs s1 nS hS hfr => hq S H1 xs s1 nS hS hfr
    subst hx
    walk_at "rd"
    exact ⟨w, L, D, n, 0, 0, .non, rfl, hw.same sm, ws, .inl rfl, by omega, by simp [tooFar, lowOf]; omega, fun r H2 s2 q2 => kk r H2 s2 q2⟩
abbrev s__law_cell_at : Stmt := top 29
theorem sc__law_cell_at : FnScope ["_law_script", "_law_k"] ["_law_script", "_law_k"] (defScope s__law_cell_at) := ⟨rfl, rfl, rfl, by decide +kernel, rfl, by decide +kernel, by decide +kernel⟩
theorem ok__law_cell_at {f : Addr} {fd : FuncData} (F : Fun K "_law_cell_at" "_law_cell_at" s__law_cell_at f fd) (m : mg "_law_cell_at" = some (.ref f)) (T : Tx w K mg C_NOUGHT C_NoFraction C_NoWeights C_ONE C_TooFar) : Callee P w K mg base 1 "_law_cell_at" ["_law_script", "_law_k"] (spCell K) := by
  refine ⟨f, fd, ?_, m, F.kp, F.binds fun _ _ _ _ _ _ us hl => match us, hl with | [_, _], _ => rfl⟩
  refine F.okE sc__law_cell_at (fun vs H Q E h => ?_) (fun cdv A outer s H vs Q E hr h => ?_)
  · obtain ⟨_, _, _, rfl, _⟩ := h
    rfl
  · obtain ⟨a, ns, k, rfl, hs, hk, hq⟩ := h
    refine ⟨_, (pss_cons (ps_if (pt_cmpR op_lt (pv 1) (pe_callB call_len_seq (by rfl) T.b_len PySem.boot_len (pa_cons (pv 0) pa_nil)) (nomark _)) (pss_one (ps_ret (pe_ix ix_list (pv 0) (pv 1) (fun _ _ => rfl)))) pss_nil) (pss_one (ps_ret pe_int))), ?_⟩
    walk_at "rd"
    refine ⟨ns.map V.int, .inl hs, ?_⟩
    split
    · rename_i hlt
      have hl : k.toNat < ns.length := by simp at hlt; omega
      refine ⟨ns.map V.int, hs, .int ns[k.toNat], ?_, hq _⟩
      have := atI_nat (xs := ns.map V.int) (j := k.toNat) (v := .int ns[k.toNat]) (by simp [hl])
      rw [Int.toNat_of_nonneg hk] at this
      exact this
    · exact hq 0
abbrev s__law_stir : Stmt := top 30
theorem sc__law_stir : FnScope ["_law_cell", "_law_k", "_law_c", "_law_low_here"] ["_law_cell", "_law_k"] (defScope s__law_stir) := ⟨rfl, rfl, rfl, by decide +kernel, rfl, by decide +kernel, by decide +kernel⟩
theorem ok__law_stir {f : Addr} {fd : FuncData} (F : Fun K "_law_stir" "_law_stir" s__law_stir f fd) (m : mg "_law_stir" = some (.ref f)) (T : Tx w K mg C_NOUGHT C_NoFraction C_NoWeights C_ONE C_TooFar) : Callee P w K mg base 1 "_law_stir" ["_law_cell", "_law_k"] (spStir) := by
  refine ⟨f, fd, ?_, m, F.kp, F.binds fun _ _ _ _ _ _ us hl => match us, hl with | [_, _], _ => rfl⟩
  refine F.okE sc__law_stir (fun vs H Q E h => ?_) (fun cdv A outer s H vs Q E hr h => ?_)
  · obtain ⟨_, _, rfl, _⟩ := h
    rfl
  · obtain ⟨c, k, rfl, hk, hk2, hq⟩ := h
    refine ⟨_, (pss_cons (ps_set (i := 2) sc__law_stir.nd rfl (Or.inl rfl) (pe_op op_add (pe_op op_add (pe_op op_add (pe_op op_mod (pv 0) (pe_op op_pow pe_int pe_int)) pe_int) (pe_op op_mul pe_int (pv 1))) (pe_op op_mul (pe_op op_mul pe_int (pv 1)) (pv 1)))) (pss_cons (ps_set (i := 3) sc__law_stir.nd rfl (Or.inl rfl) (pe_op op_mod (pe_op op_mul (pe_op op_mod (pe_op op_mul (pv 2) pe_int) pe_int) pe_int) pe_int)) (pss_one (ps_ret (pe_op op_add (pv 3) (pe_op op_mul pe_int (pe_op op_mod (pe_op op_mul (pe_op op_mul (pv 2) (pv 3)) pe_int) (pe_op op_add (pe_op op_pow pe_int pe_int) pe_int)))))))), ?_⟩
    walk_at "rd"
    refine ⟨.inl ⟨by decide, by decide⟩, .inl ⟨by decide, by decide⟩, .inr ⟨by omega, by omega⟩, .inr ⟨by decide, by decide⟩, .inr ⟨by decide, by decide⟩, .inr ?_, .inr ⟨by decide, by decide⟩, .inl ⟨by decide, by decide⟩, ?_⟩
    · generalize (c % 10000000000000000000000000000000000000000 + 1 + 13 * k + 7 * k * k) * 48271 % 2147483647 * 69621 = z
      exact ⟨by omega, by omega⟩
    · generalize (c % 10000000000000000000000000000000000000000 + 1 + 13 * k + 7 * k * k) * 48271 % 2147483647 * 69621 = z
      generalize (c % 10000000000000000000000000000000000000000 + 1 + 13 * k + 7 * k * k) * (z % 1000000007) * 2862933555777941757 = y
      exact hq _ (by omega) (by omega)
abbrev s__law_drawn : Stmt := top 31
theorem sc__law_drawn : FnScope ["_law_script", "_law_k", "_law_great", "_law_step"] ["_law_script", "_law_k"] (defScope s__law_drawn) := ⟨rfl, rfl, rfl, by decide +kernel, rfl, by decide +kernel, by decide +kernel⟩
theorem ok__law_drawn {f : Addr} {fd : FuncData} (F : Fun K "_law_drawn" "_law_drawn" s__law_drawn f fd) (m : mg "_law_drawn" = some (.ref f)) (T : Tx w K mg C_NOUGHT C_NoFraction C_NoWeights C_ONE C_TooFar) (c__law_cell_at : Callee P w K mg base 1 "_law_cell_at" ["_law_script", "_law_k"] (spCell K)) (c__law_stir : Callee P w K mg base 1 "_law_stir" ["_law_cell", "_law_k"] (spStir)) : Callee P w K mg base 2 "_law_drawn" ["_law_script", "_law_k"] (spDrawn K) := by
  refine ⟨f, fd, ?_, m, F.kp, F.binds fun _ _ _ _ _ _ us hl => match us, hl with | [_, _], _ => rfl⟩
  refine F.okE sc__law_drawn (fun vs H Q E h => ?_) (fun cdv A outer s H vs Q E hr h => ?_)
  · obtain ⟨_, _, _, rfl, _⟩ := h
    rfl
  · obtain ⟨a, ns, k, rfl, hs, hk, hk2, hq⟩ := h
    refine ⟨_, (pss_cons (ps_set (i := 2) sc__law_drawn.nd rfl (Or.inl rfl) (pe_c c__law_cell_at (hr.mono (by decide)) np (pa_cons (pv 0) (pa_cons pe_int pa_nil)))) (pss_cons (ps_if (PW.pt (pw_and (pt_cmpR op_eq (pe_op op_mod (pe_c c__law_cell_at (hr.mono (by decide)) np (pa_cons (pv 0) (pa_cons pe_int pa_nil))) pe_int) pe_int (nomark _)) (pw_and1 (pt_cmpR op_ge (pv 2) (pe_op op_pow pe_int pe_int) (nomark _))))) (pss_cons (ps_forR rfl PassesOwn.never T.b_range (pv 1) (pg_name (i := 3) sc__law_drawn.nd rfl (Or.inl rfl)) (pss_one (ps_set (i := 2) sc__law_drawn.nd rfl (Or.inl rfl) (pe_op op_fdivB (pv 2) (pe_op op_pow pe_int pe_int))))) (pss_one (ps_ret (pe_op op_mod (pv 2) (pe_op op_pow pe_int pe_int))))) pss_nil) (pss_one (ps_ret (pe_c c__law_stir (hr.mono (by decide)) np (pa_cons (pe_c c__law_cell_at (hr.mono (by decide)) np (pa_cons (pv 0) (pa_cons (pv 1) pa_nil))) (pa_cons (pv 1) pa_nil))))))), ?_⟩
    walk_at "rd"
    refine ⟨a, ns, 1, rfl, hs, by decide, fun great => ⟨a, ns, 0, rfl, hs, by decide, fun c0 => ?_⟩⟩
    walk_at "rd"
    have last : spCell K [V.ref a, V.int k] H (fun x H1 => spStir [x, V.int k] H1 Q E0) E0 := ⟨a, ns, k, rfl, hs, hk, fun c => ⟨c, k, rfl, hk, hk2, hq⟩⟩
    split
    · split
      · refine ⟨by omega, by omega, ?_⟩
        refine ⟨fun _ σ H' => ∃ (g : Int) (r : Option V), σ = [some (.ref a), some (.int k), some (.int g), r] ∧ H' = H, ⟨great, none, rfl, rfl⟩, ?_, ?_⟩
        · rintro i σ H' _ ⟨g, r, rfl, rfl⟩
          walk_at "rd"
          exact bd_ten60
        · rintro σ H' ⟨g, r, rfl, rfl⟩
          walk_at "rd"
          exact hq _ (by omega) (by omega)
      · exact last
    · exact last
abbrev s__law_whole : Stmt := top 32
theorem sc__law_whole : FnScope ["_law_found"] ["_law_found"] (defScope s__law_whole) := ⟨rfl, rfl, rfl, by decide +kernel, rfl, by decide +kernel, by decide +kernel⟩
theorem ok__law_whole {f : Addr} {fd : FuncData} (F : Fun K "_law_whole" "_law_whole" s__law_whole f fd) (m : mg "_law_whole" = some (.ref f)) (T : Tx w K mg C_NOUGHT C_NoFraction C_NoWeights C_ONE C_TooFar) : Callee P w K mg base 1 "_law_whole" ["_law_found"] (spWhole) := by
  refine ⟨f, fd, ?_, m, F.kp, F.binds fun _ _ _ _ _ _ us hl => match us, hl with | [_], _ => rfl⟩
  refine F.okE sc__law_whole (fun vs H Q E h => ?_) (fun cdv A outer s H vs Q E hr h => ?_)
  · obtain ⟨_, rfl, _⟩ := h
    rfl
  · obtain ⟨a, rfl, hq⟩ := h
    refine ⟨_, (pss_one (ps_ret (pe_and (pe_callB call_isi (by rfl) T.b_isinstance (by decide +kernel) (pa_cons (pv 0) (pa_cons (pe_bltn (v := .ty "int") (u := .type "int") rfl T.b_int (by decide +kernel) rfl) pa_nil))) (pe_one (pe_not (pe_callB call_isi (by rfl) T.b_isinstance (by decide +kernel) (pa_cons (pv 0) (pa_cons (pe_bltn (v := .ty "bool") (u := .type "bool") rfl T.b_bool (by decide +kernel) rfl) pa_nil)))))))), ?_⟩
    walk_at "rd"
    refine isi_ii (.inr ⟨rfl, isi_ib (.inl ⟨rfl, hq⟩)⟩)
abbrev s__law_divisor : Stmt := top 33
theorem sc__law_divisor : FnScope ["_law_a", "_law_b", "_law_rest"] ["_law_a", "_law_b"] (defScope s__law_divisor) := ⟨rfl, rfl, rfl, by decide +kernel, rfl, by decide +kernel, by decide +kernel⟩
theorem ok__law_divisor {f : Addr} {fd : FuncData} (F : Fun K "_law_divisor" "_law_divisor" s__law_divisor f fd) (m : mg "_law_divisor" = some (.ref f)) (T : Tx w K mg C_NOUGHT C_NoFraction C_NoWeights C_ONE C_TooFar) : Callee P w K mg base 1 "_law_divisor" ["_law_a", "_law_b"] (spGcd) := by
  refine ⟨f, fd, ?_, m, F.kp, F.binds fun _ _ _ _ _ _ us hl => match us, hl with | [_, _], _ => rfl⟩
  refine F.okE sc__law_divisor (fun vs H Q E h => ?_) (fun cdv A outer s H vs Q E hr h => ?_)
  · obtain ⟨_, _, rfl, _⟩ := h
    rfl
  · obtain ⟨a, b, rfl, hq⟩ := h
    refine ⟨_, (pss_cons (ps_set (i := 0) sc__law_divisor.nd rfl (Or.inl rfl) (pe_callB call_abs (by rfl) T.b_abs (by decide +kernel) (pa_cons (pv 0) pa_nil))) (pss_cons (ps_set (i := 1) sc__law_divisor.nd rfl (Or.inl rfl) (pe_callB call_abs (by rfl) T.b_abs (by decide +kernel) (pa_cons (pv 1) pa_nil))) (pss_cons (ps_wh PassesOwn.never (pt_cmpR op_gt (pv 1) pe_int (nomark _)) (pss_cons (ps_set (i := 2) sc__law_divisor.nd rfl (Or.inl rfl) (pe_op op_mod (pv 0) (pv 1))) (pss_cons (ps_set (i := 0) sc__law_divisor.nd rfl (Or.inl rfl) (pv 1)) (pss_one (ps_set (i := 1) sc__law_divisor.nd rfl (Or.inl rfl) (pv 2)))))) (pss_one (ps_ret (pv 0)))))), ?_⟩
    walk_at "rd"
    refine ⟨fun σ H' => ∃ (x y : Int) (r : Option V), σ = [some (.int x), some (.int y), r] ∧ H' = H ∧ 0 ≤ x ∧ 0 ≤ y ∧ Int.gcd x y = Int.gcd a b, fun σ _ => match σ with | [_, some (.int y), _] => y.toNat | _ => 0, ⟨_, _, none, rfl, rfl, ?_, ?_, gcd_abs a b⟩, ?_⟩
    · split <;> omega
    · split <;> omega
    rintro σ H' ⟨x, y, r, rfl, rfl, hx, hy, hg⟩
    by_cases hy0 : y = 0
    · subst hy0
      walk_at "rd"
      rw [← hg, gcd_end hx] at hq
      exact hq
    · have h1 := Int.emod_nonneg x hy0
      have h2 := Int.emod_lt_of_pos x (show 0 < y by omega)
      have h3 := gcd_step hx (show 0 < y by omega)
      walk_at "rd"
      rw [if_pos (show 0 < y by omega)]
      exact ⟨by omega, ⟨y, x % y, ⟨rfl, rfl⟩, hy, h1, h3.trans hg⟩, by omega⟩
abbrev s__law_low : Stmt := top 34
theorem sc__law_low : FnScope ["_law_top", "_law_bottom", "_law_by"] ["_law_top", "_law_bottom"] (defScope s__law_low) := ⟨rfl, rfl, rfl, by decide +kernel, rfl, by decide +kernel, by decide +kernel⟩
theorem ok__law_low {f : Addr} {fd : FuncData} (F : Fun K "_law_low" "_law_low" s__law_low f fd) (m : mg "_law_low" = some (.ref f)) (T : Tx w K mg C_NOUGHT C_NoFraction C_NoWeights C_ONE C_TooFar) (c__law_divisor : Callee P w K mg base 1 "_law_divisor" ["_law_a", "_law_b"] (spGcd)) : Callee P w K mg base 2 "_law_low" ["_law_top", "_law_bottom"] (spLow) := by
  refine ⟨f, fd, ?_, m, F.kp, F.binds fun _ _ _ _ _ _ us hl => match us, hl with | [_, _], _ => rfl⟩
  refine F.okE sc__law_low (fun vs H Q E h => ?_) (fun cdv A outer s H vs Q E hr h => ?_)
  · obtain ⟨_, _, rfl, _⟩ := h
    rfl
  · obtain ⟨t, b, rfl, hb, bb, hq⟩ := h
    refine ⟨_, (pss_cons (ps_if (pt_cmpR op_lt (pv 1) pe_int (nomark _)) (pss_cons (ps_set (i := 0) sc__law_low.nd rfl (Or.inl rfl) (pe_un un_neg (pv 0))) (pss_one (ps_set (i := 1) sc__law_low.nd rfl (Or.inl rfl) (pe_un un_neg (pv 1))))) pss_nil) (pss_cons (ps_set (i := 2) sc__law_low.nd rfl (Or.inl rfl) (pe_c c__law_divisor (hr.mono (by decide)) np (pa_cons (pv 0) (pa_cons (pv 1) pa_nil)))) (pss_one (ps_ret (pe_tup (pa_cons (pe_op op_fdivB (pv 0) (pv 2)) (pa_cons (pe_op op_fdivB (pv 1) (pv 2)) pa_nil))))))), ?_⟩
    walk_at "rd"
    rw [if_neg (by omega)]
    have hp := Int.gcd_pos_of_ne_zero_right t (show b ≠ 0 by omega)
    have bg : Bd 9000 ((Int.gcd t b : Nat) : Int) := bb.le (by simpa using Mt.gcd_le (t := t) (show b ≠ 0 by omega))
    have e := Mt.low_pos (t := t) hb
    refine ⟨t, b, rfl, _, rfl, bg.dv (by omega), _, rfl, bg.dv (by omega), sz_le 2 (by decide), fun p hp => ?_⟩
    rw [e.1, e.2]
    exact hq p hp
abbrev s__law_add : Stmt := top 35
theorem sc__law_add : FnScope ["_law_a", "_law_b"] ["_law_a", "_law_b"] (defScope s__law_add) := ⟨rfl, rfl, rfl, by decide +kernel, rfl, by decide +kernel, by decide +kernel⟩
theorem ok__law_add {f : Addr} {fd : FuncData} (F : Fun K "_law_add" "_law_add" s__law_add f fd) (m : mg "_law_add" = some (.ref f)) (T : Tx w K mg C_NOUGHT C_NoFraction C_NoWeights C_ONE C_TooFar) (c__law_low : Callee P w K mg base 2 "_law_low" ["_law_top", "_law_bottom"] (spLow)) : Callee P w K mg base 3 "_law_add" ["_law_a", "_law_b"] (spBin K (fun a b => a + b)) := by
  refine ⟨f, fd, ?_, m, F.kp, F.binds fun _ _ _ _ _ _ us hl => match us, hl with | [_, _], _ => rfl⟩
  refine F.okE sc__law_add (fun vs H Q E h => ?_) (fun cdv A outer s H vs Q E hr h => ?_)
  · obtain ⟨_, _, _, _, rfl, _⟩ := h
    rfl
  · obtain ⟨pa, pb, a, b, rfl, ha, hb, sa, sb, hq⟩ := h
    refine ⟨_, (pss_one (ps_ret (pe_c c__law_low (hr.mono (by decide)) np (pa_cons (pe_op op_add (pe_op op_mulB (pe_ix ix_fq (pv 0) pe_int (fun _ _ => rfl)) (pe_ix ix_fq (pv 1) pe_int (fun _ _ => rfl))) (pe_op op_mulB (pe_ix ix_fq (pv 1) pe_int (fun _ _ => rfl)) (pe_ix ix_fq (pv 0) pe_int (fun _ _ => rfl)))) (pa_cons (pe_op op_mulB (pe_ix ix_fq (pv 0) pe_int (fun _ _ => rfl)) (pe_ix ix_fq (pv 1) pe_int (fun _ _ => rfl))) pa_nil))))), ?_⟩
    dsimp only at hq
    walk_at "rd"
    refine ⟨a, ha, b, hb, sa.t.mu sb.b, b, hb, a, ha, sb.t.mu sa.b, a, ha, b, hb, sa.b.mu sb.b, _, _, rfl, Int.mul_pos (Mt.den_pos a) (Mt.den_pos b), (sa.b.mul sb.b).mono (by decide), fun p hp => ?_⟩
    rw [Mt.rat_add]
    exact hq p _ (same_upd hp) hp upd_same
abbrev s__law_take : Stmt := top 36
theorem sc__law_take : FnScope ["_law_a", "_law_b"] ["_law_a", "_law_b"] (defScope s__law_take) := ⟨rfl, rfl, rfl, by decide +kernel, rfl, by decide +kernel, by decide +kernel⟩
theorem ok__law_take {f : Addr} {fd : FuncData} (F : Fun K "_law_take" "_law_take" s__law_take f fd) (m : mg "_law_take" = some (.ref f)) (T : Tx w K mg C_NOUGHT C_NoFraction C_NoWeights C_ONE C_TooFar) (c__law_low : Callee P w K mg base 2 "_law_low" ["_law_top", "_law_bottom"] (spLow)) : Callee P w K mg base 3 "_law_take" ["_law_a", "_law_b"] (spBin K (fun a b => a - b)) := by
  refine ⟨f, fd, ?_, m, F.kp, F.binds fun _ _ _ _ _ _ us hl => match us, hl with | [_, _], _ => rfl⟩
  refine F.okE sc__law_take (fun vs H Q E h => ?_) (fun cdv A outer s H vs Q E hr h => ?_)
  · obtain ⟨_, _, _, _, rfl, _⟩ := h
    rfl
  · obtain ⟨pa, pb, a, b, rfl, ha, hb, sa, sb, hq⟩ := h
    refine ⟨_, (pss_one (ps_ret (pe_c c__law_low (hr.mono (by decide)) np (pa_cons (pe_op op_sub (pe_op op_mulB (pe_ix ix_fq (pv 0) pe_int (fun _ _ => rfl)) (pe_ix ix_fq (pv 1) pe_int (fun _ _ => rfl))) (pe_op op_mulB (pe_ix ix_fq (pv 1) pe_int (fun _ _ => rfl)) (pe_ix ix_fq (pv 0) pe_int (fun _ _ => rfl)))) (pa_cons (pe_op op_mulB (pe_ix ix_fq (pv 0) pe_int (fun _ _ => rfl)) (pe_ix ix_fq (pv 1) pe_int (fun _ _ => rfl))) pa_nil))))), ?_⟩
    dsimp only at hq
    walk_at "rd"
    refine ⟨a, ha, b, hb, sa.t.mu sb.b, b, hb, a, ha, sb.t.mu sa.b, a, ha, b, hb, sa.b.mu sb.b, _, _, rfl, Int.mul_pos (Mt.den_pos a) (Mt.den_pos b), (sa.b.mul sb.b).mono (by decide), fun p hp => ?_⟩
    rw [Mt.rat_sub]
    exact hq p _ (same_upd hp) hp upd_same
abbrev s__law_mul : Stmt := top 37
theorem sc__law_mul : FnScope ["_law_a", "_law_b"] ["_law_a", "_law_b"] (defScope s__law_mul) := ⟨rfl, rfl, rfl, by decide +kernel, rfl, by decide +kernel, by decide +kernel⟩
theorem ok__law_mul {f : Addr} {fd : FuncData} (F : Fun K "_law_mul" "_law_mul" s__law_mul f fd) (m : mg "_law_mul" = some (.ref f)) (T : Tx w K mg C_NOUGHT C_NoFraction C_NoWeights C_ONE C_TooFar) (c__law_low : Callee P w K mg base 2 "_law_low" ["_law_top", "_law_bottom"] (spLow)) : Callee P w K mg base 3 "_law_mul" ["_law_a", "_law_b"] (spBin K (fun a b => a * b)) := by
  refine ⟨f, fd, ?_, m, F.kp, F.binds fun _ _ _ _ _ _ us hl => match us, hl with | [_, _], _ => rfl⟩
  refine F.okE sc__law_mul (fun vs H Q E h => ?_) (fun cdv A outer s H vs Q E hr h => ?_)
  · obtain ⟨_, _, _, _, rfl, _⟩ := h
    rfl
  · obtain ⟨pa, pb, a, b, rfl, ha, hb, sa, sb, hq⟩ := h
    refine ⟨_, (pss_one (ps_ret (pe_c c__law_low (hr.mono (by decide)) np (pa_cons (pe_op op_mulB (pe_ix ix_fq (pv 0) pe_int (fun _ _ => rfl)) (pe_ix ix_fq (pv 1) pe_int (fun _ _ => rfl))) (pa_cons (pe_op op_mulB (pe_ix ix_fq (pv 0) pe_int (fun _ _ => rfl)) (pe_ix ix_fq (pv 1) pe_int (fun _ _ => rfl))) pa_nil))))), ?_⟩
    dsimp only at hq
    walk_at "rd"
    refine ⟨a, ha, b, hb, sa.t.mu sb.t, a, ha, b, hb, sa.b.mu sb.b, _, _, rfl, Int.mul_pos (Mt.den_pos a) (Mt.den_pos b), (sa.b.mul sb.b).mono (by decide), fun p hp => ?_⟩
    rw [Mt.rat_mul]
    exact hq p _ (same_upd hp) hp upd_same
abbrev s__law_is_fraction : Stmt := top 38
theorem sc__law_is_fraction : FnScope ["_law_found"] ["_law_found"] (defScope s__law_is_fraction) := ⟨rfl, rfl, rfl, by decide +kernel, rfl, by decide +kernel, by decide +kernel⟩
theorem ok__law_is_fraction {f : Addr} {fd : FuncData} (F : Fun K "_law_is_fraction" "_law_is_fraction" s__law_is_fraction f fd) (m : mg "_law_is_fraction" = some (.ref f)) (T : Tx w K mg C_NOUGHT C_NoFraction C_NoWeights C_ONE C_TooFar) (c__law_divisor : Callee P w K mg base 1 "_law_divisor" ["_law_a", "_law_b"] (spGcd)) (c__law_whole : Callee P w K mg base 1 "_law_whole" ["_law_found"] (spWhole)) : Callee P w K mg base 2 "_law_is_fraction" ["_law_found"] (spIsFq K) := by
  refine ⟨f, fd, ?_, m, F.kp, F.binds fun _ _ _ _ _ _ us hl => match us, hl with | [_], _ => rfl⟩
  refine F.okE sc__law_is_fraction (fun vs H Q E h => ?_) (fun cdv A outer s H vs Q E hr h => ?_)
  · obtain ⟨_, _, rfl, _⟩ := h
    rfl
  · obtain ⟨p, q, rfl, hp, hq⟩ := h
    refine ⟨_, (pss_cons (ps_if (PW.pt (pw_or (pt_not (pt_val (pe_callB call_isiT (by rfl) T.b_isinstance (by decide +kernel) (pa_cons (pv 0) (pa_cons (pe_bltn (v := .ty "tuple") (u := .type "tuple") rfl T.b_tuple (by decide +kernel) rfl) pa_nil))))) (pw_or1 (pt_cmpR op_ne (pe_callB call_len_seq (by rfl) T.b_len PySem.boot_len (pa_cons (pv 0) pa_nil)) pe_int (nomark _))))) (pss_one (ps_ret pe_bl)) pss_nil) (pss_cons (ps_if (PW.pt (pw_or (pt_not (pt_val (pe_c c__law_whole (hr.mono (by decide)) np (pa_cons (pe_ix ix_fq (pv 0) pe_int (fun _ _ => rfl)) pa_nil)))) (pw_or (pt_not (pt_val (pe_c c__law_whole (hr.mono (by decide)) np (pa_cons (pe_ix ix_fq (pv 0) pe_int (fun _ _ => rfl)) pa_nil)))) (pw_or1 (pt_cmpR op_lt (pe_ix ix_fq (pv 0) pe_int (fun _ _ => rfl)) pe_int (nomark _)))))) (pss_one (ps_ret pe_bl)) pss_nil) (pss_one (ps_ret (pe_cmpR op_eq (pe_c c__law_divisor (hr.mono (by decide)) np (pa_cons (pe_ix ix_fq (pv 0) pe_int (fun _ _ => rfl)) (pa_cons (pe_ix ix_fq (pv 0) pe_int (fun _ _ => rfl)) pa_nil))) pe_int (nomark _)))))), ?_⟩
    have f := Mt.fr_rat q
    have e : SqT K H p [.int q.num, .int (q.den : Int)] := hp
    walk_at "rd"
    refine isi_sq e (.inr ⟨rfl, _, .inr e, .inl ⟨rfl, q, hp, q.num, rfl, .inr ⟨rfl, q, hp, (q.den : Int), rfl, .inr ⟨rfl, q, hp, ?_⟩⟩⟩⟩)
    rw [if_neg (by have := f.pos; omega)]
    refine ⟨q, hp, q, hp, _, _, rfl, rfl, ?_⟩
    rw [f.low]
    exact hq
abbrev s__law_weight_by : Stmt := top 40
theorem sc__law_weight_by : FnScope ["_law_c", "_law_way"] ["_law_c", "_law_way"] (defScope s__law_weight_by) := ⟨rfl, rfl, rfl, by decide +kernel, rfl, by decide +kernel, by decide +kernel⟩
theorem ok__law_weight_by {f : Addr} {fd : FuncData} (F : Fun K "_law_weight_by" "_law_weight_by" s__law_weight_by f fd) (m : mg "_law_weight_by" = some (.ref f)) (T : Tx w K mg C_NOUGHT C_NoFraction C_NoWeights C_ONE C_TooFar) (c__law_low : Callee P w K mg base 2 "_law_low" ["_law_top", "_law_bottom"] (spLow)) : Callee P w K mg base 3 "_law_weight_by" ["_law_c", "_law_way"] (spWb2) := by
  refine ⟨f, fd, ?_, m, F.kp, F.binds fun _ _ _ _ _ _ us hl => match us, hl with | [_, _], _ => rfl⟩
  refine F.okE sc__law_weight_by (fun vs H Q E h => ?_) (fun cdv A outer s H vs Q E hr h => ?_)
  · obtain ⟨_, _, rfl, _⟩ := h
    rfl
  · obtain ⟨c, w, rfl, hq⟩ := h
    refine ⟨_, (pss_cons (ps_if (pt_cmpR op_eq (pe_op op_mod (pv 1) pe_int) pe_int (nomark _)) (pss_one (ps_ret (pe_tup (pa_cons (pe_op op_sub (pe_op op_mod (pv 0) pe_int) pe_int) (pa_cons pe_int pa_nil))))) pss_nil) (pss_cons (ps_if (pt_cmpR op_eq (pe_op op_mod (pv 1) pe_int) pe_int (nomark _)) (pss_one (ps_ret (pe_c c__law_low (hr.mono (by decide)) np (pa_cons (pe_op op_sub (pe_op op_mod (pv 0) pe_int) pe_int) (pa_cons (pe_op op_add pe_int (pe_op op_mod (pe_op op_fdivB (pv 0) pe_int) pe_int)) pa_nil))))) pss_nil) (pss_one (ps_ret (pe_c c__law_low (hr.mono (by decide)) np (pa_cons (pe_op op_sub (pe_op op_mod (pv 0) pe_int) pe_int) (pa_cons (pe_op op_add pe_int (pe_op op_mod (pe_op op_fdivB (pv 0) pe_int) pe_int)) pa_nil))))))), ?_⟩
    have dv : ∀ i j : Int, 0 < j → j ≤ 5000000 → CDivB i j := fun i j h1 h2 => ⟨by omega, Bd.mono (m := 64) (show (_ : Nat) < _ by omega) (by decide)⟩
    have low : ∀ t b : Int, 1 ≤ b → b ≤ 12 → t.natAbs ≤ 999999 → spLow [.int t, .int b] H Q E0 := fun t b b0 b1 ht =>
      ⟨t, b, rfl, by omega, Bd.mono (m := 64) (show (_ : Nat) < _ by omega) (by decide), fun p hp => hq p _ hp (Mt.wg_low b0 b1 ht)⟩
    walk_at "rd"
    split
    · refine ⟨sz_le 2 (by decide), fun p hp => ?_⟩
      rw [← frO_int]
      exact hq p _ hp (Mt.wg_int (by omega))
    split
    · exact ⟨dv _ _ (by decide) (by decide), low _ _ (by omega) (by omega) (by omega)⟩
    · exact ⟨dv _ _ (by decide) (by decide), low _ _ (by omega) (by omega) (by omega)⟩
abbrev s__law_weights_by : Stmt := top 41
theorem sc__law_weights_by : FnScope ["_law_script", "_law_first", "_law_k", "_law_way", "_law_levels", "_law_downs", "_law_h", "_law_down"] ["_law_script", "_law_first", "_law_k", "_law_way"] (defScope s__law_weights_by) := ⟨rfl, rfl, rfl, by decide +kernel, rfl, by decide +kernel, by decide +kernel⟩
theorem ok__law_weights_by {f : Addr} {fd : FuncData} (F : Fun K "_law_weights_by" "_law_weights_by" s__law_weights_by f fd) (m : mg "_law_weights_by" = some (.ref f)) (T : Tx w K mg C_NOUGHT C_NoFraction C_NoWeights C_ONE C_TooFar) (c__law_drawn : Callee P w K mg base 2 "_law_drawn" ["_law_script", "_law_k"] (spDrawn K)) (c__law_weight_by : Callee P w K mg base 3 "_law_weight_by" ["_law_c", "_law_way"] (spWb2)) : Callee P w K mg base 4 "_law_weights_by" ["_law_script", "_law_first", "_law_k", "_law_way"] (spWs53 K) := by
  refine ⟨f, fd, ?_, m, F.kp, F.binds fun _ _ _ _ _ _ us hl => match us, hl with | [_, _, _, _], _ => rfl⟩
  refine F.okE sc__law_weights_by (fun vs H Q E h => ?_) (fun cdv A outer s H vs Q E hr h => ?_)
  · obtain ⟨_, _, _, _, _, rfl, _⟩ := h
    rfl
  · obtain ⟨a, ns, b, w, k, rfl, hs, b0, b1, hk, hq⟩ := h
    refine ⟨_, (pss_cons (PCo.ps (i := 4) (coR T.b_range (pe_op op_add (pv 2) pe_int) (fun _ hpi => pe_comp3 ["_law_h"] "_law_way" 3 "_law_script" 0 "_law_first" 1 rfl hpi (fun _ _ _ _ _ => (pg_name (i := 0) (show List.Nodup [("_law_h" : Str), ("_law_way" : Str), ("_law_script" : Str), ("_law_first" : Str)] by decide +kernel) rfl (Or.inl rfl) (Or.inr rfl)).mo) (fun _ _ _ _ _ => PE.mo (pe_c c__law_weight_by (hr.mono (by decide)) np (pa_cons (pe_c c__law_drawn (hr.mono (by decide)) np (pa_cons (pv 2) (pa_cons (pe_op op_add (pv 3) (pv 0)) pa_nil))) (pa_cons (pv 1) pa_nil)))) rfl rfl rfl rfl rfl rfl rfl rfl rfl rfl rfl rfl rfl)) sc__law_weights_by.nd rfl (Or.inl rfl)) (pss_cons (ps_set (i := 5) sc__law_weights_by.nd rfl (Or.inl rfl) (pe_lst pa_nil)) (pss_cons (ps_forR rfl PassesOwn.never T.b_range (pv 2) (pg_name (i := 6) sc__law_weights_by.nd rfl (Or.inl rfl)) (pss_cons (ps_set (i := 7) sc__law_weights_by.nd rfl (Or.inl rfl) (pe_c c__law_weight_by (hr.mono (by decide)) np (pa_cons (pe_c c__law_drawn (hr.mono (by decide)) np (pa_cons (pv 0) (pa_cons (pe_op op_add (pe_op op_add (pv 1) pe_int) (pv 6)) pa_nil))) (pa_cons (pv 3) pa_nil)))) (pss_cons (ps_if (PW.pt (pw_and (pt_cmpR op_eq (pe_ix ix_fq (pv 7) pe_int (fun _ _ => rfl)) pe_int (nomark _)) (pw_and1 (pt_cmpR op_gt (pe_op op_mod (pe_op op_fdivB (pv 3) pe_int) pe_int) pe_int (nomark _))))) (pss_one (ps_set (i := 7) sc__law_weights_by.nd rfl (Or.inl rfl) (pe_tup (pa_cons (pe_op op_add pe_int (pv 6)) (pa_cons pe_int pa_nil))))) pss_nil) (pss_one (ps_expr (pe_bm PySem.F.plainAttrs_list PySem.F.slot_list_append PySem.F.type_list_append mt_append (pv 5) (pa_cons (pv 7) pa_nil))))))) (pss_one (ps_ret (pe_tup (pa_cons (pv 4) (pa_cons (pv 5) pa_nil)))))))), ?_⟩
    refine tSeq_step fun N hN => ?_
    walk_at "rd"
    refine ⟨by omega, by omega, CO.frsP (K := K) Mt.Wg (by omega) (fun _ _ => trivial) (fun i H' x R hi s hx kk => ?_) fun D1 H1 x1 f1 s1 n1 d1 k1 lf1 w1' => hN _ _ ?_⟩
    · subst hx
      walk_at "rd"
      exact ⟨a, ns, b + i, rfl, s.seq hs, by omega, by omega, fun d _ _ => ⟨d, w, rfl, fun p q np wq => kk p _ q (same_upd np) (Fq.of upd_same) wq⟩⟩
    clear hN N
    refine tSeq_step fun N hN => ?_
    walk_at "rd"
    refine fun D2 n2 => hN _ _ ?_
    clear hN N
    have u2 := same_upd (o := .lst []) n2
    have e2 : upd H1 D2 (.lst []) D2 = some (.lst []) := upd_same
    have ne : D1 ≠ D2 := ne_of_none d1 n2
    generalize upd H1 D2 (.lst []) = H2 at u2 e2 ⊢
    refine tSeq_step fun N hN => ?_
    walk_at "rd"
    refine ⟨by omega, fun i σ H' => ∃ (r6 r7 : Option V) (zs : List V) (g : List Rat), σ = [some (.ref a), some (.int b), some (.int k), some (.int w), some (.ref D1), some (.ref D2), r6, r7] ∧ Same H1 H' ∧ H' D2 = some (.lst zs) ∧ Frs K H' g zs ∧ g.length = i ∧ (∀ q ∈ g, Mt.Wg q), ⟨none, none, [], [], rfl, u2, e2, Frs.nil, rfl, (fun _ h => nomatch h)⟩, ?_, ?_⟩
    · rintro i σ H3 hi ⟨r6, r7, zs, g, rfl, sm, hD, fg, lg, wg⟩
      have lz := fg.len
      refine tSeq_step fun N hN => ?_
      walk_at "rd"
      refine ⟨a, ns, b + 8 + i, rfl, (s1.trans sm).seq hs, by omega, by omega, fun d _ _ => ⟨d, w, rfl, fun p q np wq => hN _ _ ?_⟩⟩
      clear hN N
      have u3 := same_upd (o := frO q) np
      have qp : Fq K (upd H3 p (frO q)) p q := Fq.of upd_same
      generalize upd H3 p (frO q) = H4 at u3 qp ⊢
      refine tSeq_step fun N hN => ?_
      have next : ∀ p' H5 q', Same H4 H5 → Fq K H5 p' q' → Mt.Wg q' → N [some (.ref a), some (.int b), some (.int k), some (.int w), some (.ref D1), some (.ref D2), some (.int i), some (.ref p')] H5 := by
        intro p' H5 q' s5 q5 w5
        refine hN _ _ ?_
        clear hN N
        walk_at "rd"
        have hD5 := (u3.trans s5) _ _ hD
        refine ⟨.inl ⟨rfl, _, SqL.of hD5⟩, zs, hD5, small1000 (by omega), (sm.trans (u3.trans s5)).updL n2, _, upd_same, g ++ [q'], Frs.updL hD5 (Frs.snoc (fg.same (u3.trans s5)) q5), by simp [lg], ?_⟩
        intro x hx
        rcases List.mem_append.mp hx with y | y
        · exact wg x y
        · rw [List.mem_singleton.mp y]; exact w5
      clear hN
      walk_at "rd"
      refine ⟨q, qp, ?_⟩
      split
      · refine ⟨⟨by decide, Bd.mono (m := 64) (show (_ : Nat) < _ by decide) (by decide)⟩, ?_⟩
        split
        · exact ⟨sz_le 2 (by decide), fun p5 n5 => next p5 _ ((2 + (i : Int) : Int) : Rat) (same_upd n5) (Fq.of (by rw [frO_int]; exact upd_same)) (Mt.wg_int (by omega))⟩
        · exact next p H4 q (Same.refl _) qp wq
      · exact next p H4 q (Same.refl _) qp wq
    · rintro σ H3 ⟨r6, r7, zs, g, rfl, sm, hD, fg, lg, wg⟩
      refine hN _ _ ?_
      clear hN N
      walk_at "rd"
      refine ⟨sz_le 2 (by decide), fun P nP => ?_⟩
      have uP := same_upd (o := .tup [.ref D1, .ref D2]) nP
      exact hq P D1 D2 _ x1 zs f1 g ((s1.trans sm).trans uP) n1 (s1.free n2) ne upd_same (uP _ _ (sm _ _ d1)) (uP _ _ hD) (k1.same (sm.trans uP)) (fg.same uP) ⟨w1', wg, by omega, by omega⟩ lg
abbrev s__law_moments_by : Stmt := top 42
theorem sc__law_moments_by : FnScope ["_law_levels", "_law_downs", "_law_many", "_law_row", "_law_found", "_law_length", "_law_fresh", "_law_h", "_law_total"] ["_law_levels", "_law_downs"] (defScope s__law_moments_by) := ⟨rfl, rfl, rfl, by decide +kernel, rfl, by decide +kernel, by decide +kernel⟩
theorem ok__law_moments_by {f : Addr} {fd : FuncData} (F : Fun K "_law_moments_by" "_law_moments_by" s__law_moments_by f fd) (m : mg "_law_moments_by" = some (.ref f)) (T : Tx w K mg C_NOUGHT C_NoFraction C_NoWeights C_ONE C_TooFar) (c__law_add : Callee P w K mg base 3 "_law_add" ["_law_a", "_law_b"] (spBin K (fun a b => a + b))) (c__law_mul : Callee P w K mg base 3 "_law_mul" ["_law_a", "_law_b"] (spBin K (fun a b => a * b))) : Callee P w K mg base 4 "_law_moments_by" ["_law_levels", "_law_downs"] (spMoBy K) := by
  refine ⟨f, fd, ?_, m, F.kp, F.binds fun _ _ _ _ _ _ us hl => match us, hl with | [_, _], _ => rfl⟩
  refine F.okE sc__law_moments_by (fun vs H Q E h => ?_) (fun cdv A outer s H vs Q E hr h => ?_)
  · obtain ⟨_, _, _, _, _, _, rfl, _⟩ := h
    rfl
  · obtain ⟨D1, D2, x1, x2, L, D, rfl, hD1, hD2, f1, f2, ws, hq⟩ := h
    refine ⟨_, (pss_cons (ps_set (i := 2) sc__law_moments_by.nd rfl (Or.inl rfl) (pe_op op_add (pe_op op_mul pe_int (pe_callB call_len_seq (by rfl) T.b_len PySem.boot_len (pa_cons (pv 1) pa_nil))) pe_int)) (pss_cons (ps_set (i := 3) sc__law_moments_by.nd rfl (Or.inl rfl) (pe_op op_cat (pe_lst (pa_cons (pe_tup (pa_cons pe_int (pa_cons pe_int pa_nil))) pa_nil)) (pe_op op_rep (pe_lst (pa_cons (pe_tup (pa_cons pe_int (pa_cons pe_int pa_nil))) pa_nil)) (pe_op op_add (pe_callB call_len_seq (by rfl) T.b_len PySem.boot_len (pa_cons (pv 1) pa_nil)) pe_int)))) (pss_cons (ps_set (i := 4) sc__law_moments_by.nd rfl (Or.inl rfl) (pe_lst pa_nil)) (pss_cons (ps_forR rfl PassesOwn.never T.b_range (pv 2) (pg_name (i := 5) sc__law_moments_by.nd rfl (Or.inl rfl)) (pss_cons (ps_expr (pe_bm PySem.F.plainAttrs_list PySem.F.slot_list_append PySem.F.type_list_append mt_append (pv 4) (pa_cons (pe_ix ix_list (pv 3) pe_int (fun _ _ => rfl)) pa_nil))) (pss_cons (ps_set (i := 6) sc__law_moments_by.nd rfl (Or.inl rfl) (pe_lst pa_nil)) (pss_cons (ps_forR rfl PassesOwn.never T.b_range (pe_callB call_len_seq (by rfl) T.b_len PySem.boot_len (pa_cons (pv 0) pa_nil)) (pg_name (i := 7) sc__law_moments_by.nd rfl (Or.inl rfl)) (pss_cons (ps_set (i := 8) sc__law_moments_by.nd rfl (Or.inl rfl) (pe_c c__law_mul (hr.mono (by decide)) np (pa_cons (pe_ix ix_list (pv 3) (pv 7) (fun _ _ => rfl)) (pa_cons (pe_ix ix_list (pv 0) (pv 7) (fun _ _ => rfl)) pa_nil)))) (pss_cons (ps_if (pt_cmpR op_gt (pv 7) pe_int (nomark _)) (pss_one (ps_set (i := 8) sc__law_moments_by.nd rfl (Or.inl rfl) (pe_c c__law_add (hr.mono (by decide)) np (pa_cons (pv 8) (pa_cons (pe_ix ix_list (pv 3) (pe_op op_sub (pv 7) pe_int) (fun _ _ => rfl)) pa_nil))))) pss_nil) (pss_cons (ps_if (pt_cmpR op_lt (pv 7) (pe_callB call_len_seq (by rfl) T.b_len PySem.boot_len (pa_cons (pv 1) pa_nil)) (nomark _)) (pss_one (ps_set (i := 8) sc__law_moments_by.nd rfl (Or.inl rfl) (pe_c c__law_add (hr.mono (by decide)) np (pa_cons (pv 8) (pa_cons (pe_c c__law_mul (hr.mono (by decide)) np (pa_cons (pe_ix ix_list (pv 3) (pe_op op_add (pv 7) pe_int) (fun _ _ => rfl)) (pa_cons (pe_ix ix_list (pv 1) (pv 7) (fun _ _ => rfl)) pa_nil))) pa_nil))))) pss_nil) (pss_one (ps_expr (pe_bm PySem.F.plainAttrs_list PySem.F.slot_list_append PySem.F.type_list_append mt_append (pv 6) (pa_cons (pv 8) pa_nil)))))))) (pss_one (ps_set (i := 3) sc__law_moments_by.nd rfl (Or.inl rfl) (pe_op op_cat (pv 6) (pe_lst (pa_cons (pe_tup (pa_cons pe_int (pa_cons pe_int pa_nil))) pa_nil))))))))) (pss_one (ps_ret (pv 4))))))), ?_⟩
    have wn := ws.n
    have wm := ws.m
    have l1 := f1.len
    have l2 := f2.len
    refine tSeq_step fun N hN => ?_
    simp [tSeq, tIfS, tTest, tB, tOp, rI, rI0, rEq, rNe, scal, tVar, tC, tCB, tCons, tNil, tNext, tRet, tRetN, L2.start, rIxL, rIxT, rFqI, tAsg, gName, tUn, rU, tNot, tNotV, tAnd, tOr, tAndV, tOrV, tIf, tTup, tLst, tCall, tCallS, tDrop, tForR, tForT, tForL, tForE, tForV, gTup, gCons, gNil, gSub, rSetL, tRaise, tTry, tH, Ends.gone, cσ, CPow, tCoR, tCoL, tCoT, tCoX, tForX, tExcInit, tFs, sXset, tXget, tRaiseI, tJoinRev, tChain, rAll, tHno, cx_K, cxU_K, rIn, tSl, tNoPart, tPart, rAppend, tBM, tForR2, tBM0, rClear, rReverse, tPar, tVs, tCoZ, tCoRH, tHE, tListRev, tForZ, tForVL, tForZL, tForK, tForD, sDPut, tDGet2, tDNewK, tDisp, tPairs, tCoLI, tCoRI, tCoKI, tAugS, ipI, rRep, tBreak, rRep, rCat]
    refine ⟨x2, .inl (SqL.of hD2), .inl ⟨by decide, by decide⟩, hN _ _ ?_⟩
    clear hN N
    refine tSeq_step fun N hN => ?_
    simp [tSeq, tIfS, tTest, tB, tOp, rI, rI0, rEq, rNe, scal, tVar, tC, tCB, tCons, tNil, tNext, tRet, tRetN, L2.start, rIxL, rIxT, rFqI, tAsg, gName, tUn, rU, tNot, tNotV, tAnd, tOr, tAndV, tOrV, tIf, tTup, tLst, tCall, tCallS, tDrop, tForR, tForT, tForL, tForE, tForV, gTup, gCons, gNil, gSub, rSetL, tRaise, tTry, tH, Ends.gone, cσ, CPow, tCoR, tCoL, tCoT, tCoX, tForX, tExcInit, tFs, sXset, tXget, tRaiseI, tJoinRev, tChain, rAll, tHno, cx_K, cxU_K, rIn, tSl, tNoPart, tPart, rAppend, tBM, tForR2, tBM0, rClear, rReverse, tPar, tVs, tCoZ, tCoRH, tHE, tListRev, tForZ, tForVL, tForZL, tForK, tForD, sDPut, tDGet2, tDNewK, tDisp, tPairs, tCoLI, tCoRI, tCoKI, tAugS, ipI, rRep, tBreak, rRep, rCat]
    refine ⟨sz_le 2 (by decide), fun p1 n1 => ⟨sz_le 1 (by decide), fun p2 n2 => ⟨sz_le 2 (by decide), fun p3 n3 => ⟨sz_le 1 (by decide), fun p4 n4 => ?_⟩⟩⟩⟩
    have u1 := same_upd (o := .tup [.int 1, .int 1]) n1
    have q1 : Fq K (upd H p1 (.tup [.int 1, .int 1])) p1 1 := Fq.of upd_same
    generalize upd H p1 (.tup [.int 1, .int 1]) = H1 at u1 q1 n2 n3 n4 ⊢
    have u2 := same_upd (o := .lst [.ref p1]) n2
    have g2 : upd H1 p2 (.lst [.ref p1]) p2 = some (.lst [.ref p1]) := upd_same
    generalize upd H1 p2 (.lst [.ref p1]) = H2 at u2 g2 n3 n4 ⊢
    have u3 := same_upd (o := .tup [.int 0, .int 1]) n3
    have q3 : Fq K (upd H2 p3 (.tup [.int 0, .int 1])) p3 0 := Fq.of upd_same
    generalize upd H2 p3 (.tup [.int 0, .int 1]) = H3 at u3 q3 n4 ⊢
    have u4 := same_upd (o := .lst [.ref p3]) n4
    have g4 : upd H3 p4 (.lst [.ref p3]) p4 = some (.lst [.ref p3]) := upd_same
    generalize upd H3 p4 (.lst [.ref p3]) = H4 at u4 g4 ⊢
    have s4 := ((u1.trans u2).trans u3).trans u4
    refine ⟨x2, .inl (SqL.of (s4 _ _ hD2)), _, g4, by omega, by omega, sz_le _ (by simp; omega), fun p5 n5 => ?_⟩
    have rp : ∀ m : Nat, (List.replicate m [V.ref p3]).flatten = List.replicate m (V.ref p3) := fun m => by
      induction m with
      | zero => rfl
      | succ m ih => rw [List.replicate_succ, List.replicate_succ, List.flatten_cons, ih]; rfl
    rw [rp]
    have u5 := same_upd (o := .lst (List.replicate (x2.length + 1) (V.ref p3))) n5
    have g5 : upd H4 p5 (.lst (List.replicate (x2.length + 1) (V.ref p3))) p5 = some (.lst (List.replicate (x2.length + 1) (V.ref p3))) := upd_same
    generalize upd H4 p5 (.lst (List.replicate (x2.length + 1) (V.ref p3))) = H5 at u5 g5 ⊢
    refine ⟨_, u5 _ _ ((u3.trans u4) _ _ g2), _, g5, sz_le _ (by simp; omega), fun R0 nR => hN _ _ ?_⟩
    clear hN N rp
    have u6 := same_upd (o := .lst ([V.ref p1] ++ List.replicate (x2.length + 1) (V.ref p3))) nR
    have hR0 : upd H5 R0 (.lst ([V.ref p1] ++ List.replicate (x2.length + 1) (V.ref p3))) R0 = some (.lst ([V.ref p1] ++ List.replicate (x2.length + 1) (V.ref p3))) := upd_same
    generalize upd H5 R0 (.lst ([V.ref p1] ++ List.replicate (x2.length + 1) (V.ref p3))) = H6 at u6 hR0 ⊢
    have s6 := (s4.trans u5).trans u6
    obtain ⟨S, eS⟩ : ∃ S : Nat → Nat → Rat, S = fun n h => Mt.sm (Mt.cf L) (Mt.cf D) (D.length + 1) 0 n h := ⟨_, rfl⟩
    have Sz_ : ∀ n h, n ≤ 20 → Sz 1300 (S n h) := fun n h hn => by rw [eS]; exact ws.sm (by omega) _ _ _
    have S0 : ∀ h, S 0 h = if h = 0 then 1 else 0 := fun h => by
      rw [eS]
      show Mt.sm (Mt.cf L) (Mt.cf D) (D.length + 1) 0 0 h = _
      by_cases z : h < D.length + 1
      · rw [Mt.sm_zero z]
      · rw [Mt.sm_ge (by omega), if_neg (by omega)]
    have Ss : ∀ n h, h < D.length + 1 → S (n + 1) h = S n h * Mt.cf L h + (if 0 < h then S n (h - 1) else 0) + (if h + 1 < D.length + 1 then S n (h + 1) * Mt.cf D h else 0) := fun n h hh => by
      rw [eS]
      exact Mt.sm_succ hh
    have Sg : ∀ n, S n (D.length + 1) = 0 := fun n => by rw [eS]; exact Mt.sm_ge (Nat.le_refl _)
    have fR0 : Frs K H6 ((List.range (D.length + 2)).map fun h => S 0 h) ([V.ref p1] ++ List.replicate (x2.length + 1) (V.ref p3)) := by
      have e : ((List.range (D.length + 2)).map fun h => S 0 h) = [1] ++ List.replicate (D.length + 1) 0 := by
        refine List.ext_getElem (by simp) fun h h1 h2 => ?_
        simp only [List.getElem_map, List.getElem_range, S0]
        rcases h with _ | h
        · rfl
        · rw [if_neg (by omega), List.getElem_append_right (by simp)]
          exact (List.getElem_replicate ..).symm
      rw [e, ← l2]
      exact Frs.append (Frs.cons (q1.same ((((u2.trans u3).trans u4).trans u5).trans u6)) Frs.nil) (Frs.replicate (q3.same ((u4.trans u5).trans u6)) _)
    have eM : (List.range (2 * D.length + 2)).map (fun n => S n 0) = momL L D := by rw [momL, eS]
    clear u1 u2 u3 u4 u5 u6 q1 q3 g2 g4 g5 n1 n2 n3 n4 n5 nR s4 eS
    refine tSeq_step fun N hN => ?_
    walk_at "rd"
    refine fun FO nF => hN _ _ ?_
    clear hN N
    have w1 := same_upd (o := .lst []) nF
    have hF0 : upd H6 FO (.lst []) FO = some (.lst []) := upd_same
    have ne0 : R0 ≠ FO := ne_of_none hR0 nF
    have nF0 : H FO = none := s6.free nF
    generalize upd H6 FO (.lst []) = H7 at w1 hF0 ⊢
    refine tSeq_step fun N hN => ?_
    walk_at "rd"
    have e2k : (2 * (x2.length : Int) + 2).toNat = 2 * D.length + 2 := by omega
    rw [e2k]
    refine ⟨by omega, by omega, fun n σ H' => ∃ (R : Addr) (r5 r6 r7 r8 : Option V) (rs ys : List V), σ = [some (.ref D1), some (.ref D2), some (.int (2 * (x2.length : Int) + 2)), some (.ref R), some (.ref FO), r5, r6, r7, r8] ∧ Same H H' ∧ R ≠ FO ∧ H' R = some (.lst rs) ∧ Frs K H' ((List.range (D.length + 2)).map fun h => S n h) rs ∧ H' FO = some (.lst ys) ∧ Frs K H' ((List.range n).map fun n => S n 0) ys, ⟨R0, none, none, none, none, _, [], rfl, s6.trans w1, ne0, w1 _ _ hR0, fR0.same w1, hF0, Frs.nil⟩, ?_, ?_⟩
    · rintro n σ H8 hn ⟨R, r5, r6, r7, r8, rs, ys, rfl, s8, ne, hR, fR, hF, fF⟩
      have lr := fR.len
      have ly := fF.len
      rw [List.length_map, List.length_range] at lr ly
      refine tSeq_step fun N hN => ?_
      walk_at "rd"
      obtain ⟨p0, e0, q0⟩ := fR.at (j := 0) (by simp)
      rw [Mt.cf_map_range, if_pos (by omega)] at q0
      refine ⟨.inl ⟨rfl, _, SqL.of hF⟩, rs, SqL.of hR, _, atI_nat e0, ys, hF, small1000 (by omega), hN _ _ ?_⟩
      clear hN N
      have s9 : Same H (upd H8 FO (.lst (ys ++ [.ref p0]))) := s8.updL nF0
      have hR9 : upd H8 FO (.lst (ys ++ [.ref p0])) R = some (.lst rs) := by rw [upd_ne ne]; exact hR
      have fR9 : Frs K (upd H8 FO (.lst (ys ++ [.ref p0]))) ((List.range (D.length + 2)).map fun h => S n h) rs := Frs.updL hF fR
      have hF9 : upd H8 FO (.lst (ys ++ [.ref p0])) FO = some (.lst (ys ++ [.ref p0])) := upd_same
      have fF9 : Frs K (upd H8 FO (.lst (ys ++ [.ref p0]))) ((List.range (n + 1)).map fun n => S n 0) (ys ++ [.ref p0]) := by
        rw [List.range_succ, List.map_append]
        exact Frs.updL hF (Frs.snoc fF q0)
      generalize upd H8 FO (.lst (ys ++ [.ref p0])) = H9 at s9 hR9 fR9 hF9 fF9 ⊢
      clear hF fF hR fR s8 q0 e0
      refine tSeq_step fun N hN => ?_
      walk_at "rd"
      refine fun G nG => hN _ _ ?_
      clear hN N
      have w2 := same_upd (o := .lst []) nG
      have hG0 : upd H9 G (.lst []) G = some (.lst []) := upd_same
      have neG : G ≠ FO := fun z => by rw [z, hF9] at nG; cases nG
      generalize upd H9 G (.lst []) = H10 at w2 hG0 ⊢
      refine tSeq_step fun N hN => ?_
      walk_at "rd"
      refine ⟨x1, .inl (SqL.of ((s9.trans w2) _ _ hD1)), by omega, fun h σ H' => ∃ (r7 r8 : Option V) (gs : List V), σ = [some (.ref D1), some (.ref D2), some (.int (2 * (x2.length : Int) + 2)), some (.ref R), some (.ref FO), some (.int n), some (.ref G), r7, r8] ∧ Same H9 H' ∧ H' G = some (.lst gs) ∧ Frs K H' ((List.range h).map fun h => S (n + 1) h) gs, ⟨r7, r8, [], rfl, w2, hG0, Frs.nil⟩, ?_, ?_⟩
      · rintro h σ H11 hh ⟨r7, r8, gs, rfl, s11, hG, fG⟩
        have lg := fG.len
        rw [List.length_map, List.length_range] at lg
        obtain ⟨pr, er, qr⟩ := fR9.at (j := h) (by simp; omega)
        obtain ⟨pl, el, ql⟩ := f1.at (j := h) (by omega)
        rw [Mt.cf_map_range, if_pos (by omega)] at qr
        have ss := Ss n h (by omega)
        refine tSeq_step fun N hN => ?_
        walk_at "rd"
        refine ⟨rs, SqL.of (s11 _ _ hR9), _, atI_nat er, x1, SqL.of ((s9.trans s11) _ _ hD1), _, atI_nat el, pr, pl, _, _, rfl, qr.same s11, ql.same (s9.trans s11), (Sz_ n h (by omega)).mono (by decide), (ws.sL h).mono (by decide), fun t1 H12 s12 n12 h12 => hN _ _ ?_⟩
        clear hN N
        have q12 : Fq K H12 t1 (S n h * Mt.cf L h) := Fq.of h12
        have z1 : Sz 2600 (S n h * Mt.cf L h) := ((Sz_ n h (by omega)).mul (ws.sL h)).mono (by decide)
        refine tSeq_step fun N hN => ?_
        have n1 : ∀ tz H13, Same H12 H13 → Fq K H13 tz (S n h * Mt.cf L h + if 0 < h then S n (h - 1) else 0) → N [some (.ref D1), some (.ref D2), some (.int (2 * (x2.length : Int) + 2)), some (.ref R), some (.ref FO), some (.int n), some (.ref G), some (.int h), some (.ref tz)] H13 := by
          intro tz H13 s13 q13
          refine hN _ _ ?_
          clear hN N
          have z2 : Sz 3950 (S n h * Mt.cf L h + if 0 < h then S n (h - 1) else 0) := by
            refine (z1.add (n := 1300) ?_).mono (by decide)
            split
            · exact Sz_ n (h - 1) (by omega)
            · exact Sz.zero (by decide)
          refine tSeq_step fun N hN => ?_
          have n2' : ∀ tz H14, Same H12 H14 → Fq K H14 tz (S (n + 1) h) → N [some (.ref D1), some (.ref D2), some (.int (2 * (x2.length : Int) + 2)), some (.ref R), some (.ref FO), some (.int n), some (.ref G), some (.int h), some (.ref tz)] H14 := by
            intro tz H14 s14 q14
            refine hN _ _ ?_
            clear hN N
            have s14' := s12.trans s14
            have hG14 := s14' _ _ hG
            walk_at "rd"
            refine ⟨.inl ⟨rfl, _, SqL.of hG14⟩, gs, hG14, small1000 (by omega), (s11.trans s14').updL nG, _, upd_same, ?_⟩
            rw [List.range_succ, List.map_append]
            exact Frs.updL hG14 (Frs.snoc (fG.same s14') q14)
          clear hN
          have s13' := (s11.trans s12).trans s13
          walk_at "rd"
          refine ⟨x2, .inl (SqL.of ((s9.trans s13') _ _ hD2)), ?_⟩
          by_cases zh : h < x2.length
          · rw [if_pos (by omega)]
            obtain ⟨pn, en, qn⟩ := fR9.at (j := h + 1) (by simp; omega)
            obtain ⟨pw, ew, qw⟩ := f2.at (j := h) (by omega)
            rw [Mt.cf_map_range, if_pos (by omega)] at qn
            have an := atI_nat en
            rw [show ((h + 1 : Nat) : Int) = (h : Int) + 1 by omega] at an
            refine ⟨rs, SqL.of (s13' _ _ hR9), _, an, x2, SqL.of ((s9.trans s13') _ _ hD2), _, atI_nat ew, pn, pw, _, _, rfl, qn.same s13', qw.same (s9.trans s13'), (Sz_ n (h + 1) (by omega)).mono (by decide), (ws.sD h).mono (by decide), fun t2 H14 s14 n14 h14 => ⟨tz, t2, _, _, rfl, q13.same s14, Fq.of h14, z2.mono (by decide), ((Sz_ n (h + 1) (by omega)).mul (ws.sD h)).mono (by decide), fun t3 H15 s15 n15 h15 => n2' t3 H15 ((s13.trans s14).trans s15) ?_⟩⟩
            rw [ss, if_pos (show h + 1 < D.length + 1 by omega)]
            exact Fq.of h15
          · rw [if_neg (by omega)]
            refine n2' tz H13 s13 ?_
            rw [ss, if_neg (show ¬ h + 1 < D.length + 1 by omega), Rat.add_zero]
            exact q13
        clear hN
        walk_at "rd"
        by_cases zh : 0 < h
        · rw [if_pos (by omega)]
          obtain ⟨pm, em, qm⟩ := fR9.at (j := h - 1) (by simp; omega)
          rw [Mt.cf_map_range, if_pos (by omega)] at qm
          have am := atI_nat em
          rw [show ((h - 1 : Nat) : Int) = (h : Int) - 1 by omega] at am
          refine ⟨rs, SqL.of ((s11.trans s12) _ _ hR9), _, am, t1, pm, _, _, rfl, q12, qm.same (s11.trans s12), z1.mono (by decide), (Sz_ n (h - 1) (by omega)).mono (by decide), fun t2 H13 s13 n13 h13 => n1 t2 H13 s13 ?_⟩
          rw [if_pos zh]
          exact Fq.of h13
        · rw [if_neg (by omega)]
          refine n1 t1 H12 (Same.refl _) ?_
          rw [if_neg zh, Rat.add_zero]
          exact q12
      · rintro σ H11 ⟨r7, r8, gs, rfl, s11, hG, fG⟩
        refine hN _ _ ?_
        clear hN N
        simp [tSeq, tIfS, tTest, tB, tOp, rI, rI0, rEq, rNe, scal, tVar, tC, tCB, tCons, tNil, tNext, tRet, tRetN, L2.start, rIxL, rIxT, rFqI, tAsg, gName, tUn, rU, tNot, tNotV, tAnd, tOr, tAndV, tOrV, tIf, tTup, tLst, tCall, tCallS, tDrop, tForR, tForT, tForL, tForE, tForV, gTup, gCons, gNil, gSub, rSetL, tRaise, tTry, tH, Ends.gone, cσ, CPow, tCoR, tCoL, tCoT, tCoX, tForX, tExcInit, tFs, sXset, tXget, tRaiseI, tJoinRev, tChain, rAll, tHno, cx_K, cxU_K, rIn, tSl, tNoPart, tPart, rAppend, tBM, tForR2, tBM0, rClear, rReverse, tPar, tVs, tCoZ, tCoRH, tHE, tListRev, tForZ, tForVL, tForZL, tForK, tForD, sDPut, tDGet2, tDNewK, tDisp, tPairs, tCoLI, tCoRI, tCoKI, tAugS, ipI, rRep, tBreak, rCat]
        refine ⟨sz_le 2 (by decide), fun pz m1 => ⟨sz_le 1 (by decide), fun pl m2 => ?_⟩⟩
        have v1 := same_upd (o := .tup [.int 0, .int 1]) m1
        have qz : Fq K (upd H11 pz (.tup [.int 0, .int 1])) pz 0 := Fq.of upd_same
        generalize upd H11 pz (.tup [.int 0, .int 1]) = H12 at v1 qz m2 ⊢
        have v2 := same_upd (o := .lst [.ref pz]) m2
        have g2 : upd H12 pl (.lst [.ref pz]) pl = some (.lst [.ref pz]) := upd_same
        generalize upd H12 pl (.lst [.ref pz]) = H13 at v2 g2 ⊢
        have v12 := v1.trans v2
        have lg := fG.len
        rw [List.length_map, List.length_range] at lg
        refine ⟨gs, v12 _ _ hG, _, g2, sz_le _ (by simp; omega), fun R2 m3 => ?_⟩
        have v3 := same_upd (o := .lst (gs ++ [.ref pz])) m3
        have vA := v12.trans v3
        have hF13 := (s11.trans v12) _ _ hF9
        refine ⟨s9.trans (s11.trans vA), (fun z => by rw [z, hF13] at m3; cases m3), _, upd_same, ?_, _, v3 _ _ hF13, fF9.same (s11.trans vA)⟩
        rw [List.range_succ, List.map_append]
        have e : D.length + 1 = x1.length := by omega
        rw [e]
        refine Frs.append (fG.same vA) (Frs.cons ?_ Frs.nil)
        rw [← e]
        show Fq K _ pz (S (n + 1) (D.length + 1))
        rw [Sg]
        exact (qz.same v2).same v3
    · rintro σ H8 ⟨R, r5, r6, r7, r8, rs, ys, rfl, s8, ne, hR, fR, hF, fF⟩
      refine hN _ _ ?_
      clear hN N
      walk_at "rd"
      rw [eM] at fF
      exact hq FO H8 ys s8 nF0 hF fF
abbrev s__law_measure_by : Stmt := top 43
theorem sc__law_measure_by : FnScope ["_law_rows", "_law_total", "_law_k", "_law_rest", "_law_part"] ["_law_rows"] (defScope s__law_measure_by) := ⟨rfl, rfl, rfl, by decide +kernel, rfl, by decide +kernel, by decide +kernel⟩
theorem rec__law_measure_by {f : Addr} {fd : FuncData} (F : Fun K "_law_measure_by" "_law_measure_by" s__law_measure_by f fd) (m : mg "_law_measure_by" = some (.ref f)) (T : Tx w K mg C_NOUGHT C_NoFraction C_NoWeights C_ONE C_TooFar) (c__law_add : Callee P w K mg base 3 "_law_add" ["_law_a", "_law_b"] (spBin K (fun a b => a + b))) (c__law_mul : Callee P w K mg base 3 "_law_mul" ["_law_a", "_law_b"] (spBin K (fun a b => a * b))) (d sz : Nat) (hd : 3 ≤ d) (c__law_measure_by : Callee P w K mg base d "_law_measure_by" ["_law_rows"] (spLap K sz)) : Callee P w K mg base (d + 1) "_law_measure_by" ["_law_rows"] (spLap K (sz + 1)) := by
  refine ⟨f, fd, ?_, m, F.kp, F.binds fun _ _ _ _ _ _ us hl => match us, hl with | [_], _ => rfl⟩
  refine F.okE sc__law_measure_by (fun vs H Q E h => ?_) (fun cdv A outer s H vs Q E hr h => ?_)
  · obtain ⟨_, _, _, _, _, _, _, rfl, _⟩ := h
    rfl
  · obtain ⟨n, hns, TB, F, Dr, N0, d, rfl, hT, hn, zF, hD, hN0, dn, hq⟩ := h
    refine ⟨_, (pss_cons (ps_if (pt_cmpR op_eq (pe_callB call_len_seq (by rfl) T.b_len PySem.boot_len (pa_cons (pv 0) pa_nil)) pe_int (nomark _)) (pss_one (ps_ret (pe_tup (pa_cons pe_int (pa_cons pe_int pa_nil))))) pss_nil) (pss_cons (ps_set (i := 1) sc__law_measure_by.nd rfl (Or.inl rfl) (pe_tup (pa_cons pe_int (pa_cons pe_int pa_nil)))) (pss_cons (ps_forR rfl PassesOwn.never T.b_range (pe_callB call_len_seq (by rfl) T.b_len PySem.boot_len (pa_cons (pv 0) pa_nil)) (pg_name (i := 2) sc__law_measure_by.nd rfl (Or.inr rfl)) (pss_one (ps_if (pt_cmpR op_ne (pe_ix ix_fq (pe_ix ix_list (pe_ix ix_list (pv 0) pe_int (fun _ _ => rfl)) (pv 2) (fun _ _ => rfl)) pe_int (fun _ _ => rfl)) pe_int (nomark _)) (pss_cons (PCo.ps (i := 3) (coL (pe_slice sl_list (pv 0) (po_some pe_int) po_none) (fun _ hpi => pe_comp1 ["_law_row"] "_law_k" 2 rfl hpi (fun _ _ _ _ _ => (pg_name (i := 0) (show List.Nodup [("_law_row" : Str), ("_law_k" : Str)] by decide +kernel) rfl (Or.inl rfl) (Or.inr rfl)).mo) (fun _ _ _ _ _ => PE.mo (pe_op op_cat (pe_slice (show SlR _ (rSlL K) from sl_list) (pv 0) po_none (po_some (pv 1))) (pe_slice (show SlR _ (rSlL K) from sl_list) (pv 0) (po_some (pe_op op_add (pv 1) pe_int)) po_none))) rfl rfl rfl rfl rfl)) sc__law_measure_by.nd rfl (Or.inl rfl)) (pss_cons (ps_set (i := 4) sc__law_measure_by.nd rfl (Or.inl rfl) (pe_c c__law_mul (hr.mono (by omega)) np (pa_cons (pe_ix ix_list (pe_ix ix_list (pv 0) pe_int (fun _ _ => rfl)) (pv 2) (fun _ _ => rfl)) (pa_cons (pe_c c__law_measure_by (hr.mono (by omega)) np (pa_cons (pv 3) pa_nil)) pa_nil)))) (pss_cons (ps_if (pt_cmpR op_eq (pe_op op_mod (pv 2) pe_int) pe_int (nomark _)) (pss_one (ps_set (i := 4) sc__law_measure_by.nd rfl (Or.inl rfl) (pe_tup (pa_cons (pe_un un_neg (pe_ix ix_fq (pv 4) pe_int (fun _ _ => rfl))) (pa_cons (pe_ix ix_fq (pv 4) pe_int (fun _ _ => rfl)) pa_nil))))) pss_nil) (pss_one (ps_set (i := 1) sc__law_measure_by.nd rfl (Or.inl rfl) (pe_c c__law_add (hr.mono (by omega)) np (pa_cons (pv 1) (pa_cons (pv 4) pa_nil)))))))) pss_nil))) (pss_one (ps_ret (pv 1)))))), ?_⟩
    refine tSeq_step fun N hN => ?_
    walk_at "rd"
    obtain ⟨ts, hTB, lt, rows⟩ := id hT
    refine ⟨ts, .inl hTB, ?_⟩
    rcases n with _ | n
    · rw [if_pos (List.length_eq_zero_iff.mp lt)]
      exact ⟨sz_le 2 (by decide), fun p np => hq p _ (same_upd np) (Fq.of (q := 1) upd_same)⟩
    rw [if_neg (fun z => by rw [z] at lt; simp at lt)]
    refine hN _ _ ?_
    clear hN N
    have szD : ∀ k, k ≤ n + 1 → Sz 3820 (Mt.Su (fun k => Mt.sg k * F 0 k * Mt.det n (fun i j => F (i + 1) (Mt.sk k j))) k) ∧ (k < n + 1 → Sz 3820 (Mt.det n (fun i j => F (i + 1) (Mt.sk k j))) ∧ Sz 3820 (F 0 k) ∧ Sz 3820 (F 0 k * Mt.det n (fun i j => F (i + 1) (Mt.sk k j)))) := by
      intro k hk
      have dN : d * (n + 1) ≤ 3800 := dn
      have dn1 : d * n ≤ 3800 := Nat.le_trans (Nat.mul_le_mul_left d (by omega)) dn
      have pD := Mt.prN_bd hD (n + 1)
      have pD1 := Mt.prN_bd (fun i => hD (i + 1)) n
      have p2 : ∀ {x y : Nat}, x ≤ y → (2 : Nat) ^ x ≤ 2 ^ y := fun h => Nat.pow_le_pow_right (by decide) h
      have fn : Mt.fact n ≤ 24 := by
        have : n = 0 ∨ n = 1 ∨ n = 2 ∨ n = 3 ∨ n = 4 := by omega
        rcases this with rfl | rfl | rfl | rfl | rfl <;> decide
      have Np : ∀ m, N0 ^ m ≤ 2 ^ (d * m) := fun m => by
        have := Nat.pow_le_pow_left hN0 m
        rwa [← Nat.pow_mul] at this
      have big : ∀ {c : Nat} {D M : Nat} {q : Rat}, Mt.Lat D M q → 0 < D → D ≤ 2 ^ 3800 → M ≤ c * 2 ^ 3800 → c ≤ 1000 → Sz 3820 q := fun {c D M q} h h0 h1 h2 h3 => by
        refine lat_sz (m := 3820) h h0 (Nat.lt_of_le_of_lt h1 (Nat.pow_lt_pow_right (by decide) (by decide))) ?_
        have e : 2 ^ 3820 = 2 ^ 20 * 2 ^ 3800 := by rw [← Nat.pow_add]
        rw [e]
        refine Nat.lt_of_le_of_lt h2 (Nat.mul_lt_mul_of_pos_right ?_ (Nat.two_pow_pos _))
        omega
      have term : ∀ k, k < n + 1 → Mt.Lat (Mt.prN (fun i => Dr (i + 1)) n) (Mt.fact n * N0 ^ n) (Mt.det n (fun i j => F (i + 1) (Mt.sk k j))) := fun k hk => Mt.det_lat fun i hi j hj => zF (i + 1) (by omega) (Mt.sk k j) (by unfold Mt.sk; split <;> omega)
      refine ⟨big (c := 200) (Mt.lat_Su fun k' hk' => Mt.det_term (zF 0 (by omega) k' (by omega)) (term k' (by omega))) pD.1 (Nat.le_trans pD.2 (p2 dN)) ?_ (by decide), fun hk' => ⟨big (c := 24) (term k hk') pD1.1 (Nat.le_trans pD1.2 (p2 dn1)) ?_ (by decide), big (c := 1) (zF 0 (by omega) k hk') (hD 0).1 (Nat.le_trans (hD 0).2 (p2 ?_)) ?_ (by decide), ?_⟩⟩
      · have h1 : Mt.fact n * N0 ^ (n + 1) ≤ 24 * 2 ^ 3800 := Nat.mul_le_mul fn (Nat.le_trans (Np (n + 1)) (p2 dN))
        have h2 : k * (Mt.fact n * N0 ^ (n + 1)) ≤ 8 * (24 * 2 ^ 3800) := Nat.mul_le_mul (by omega) h1
        have h3 : 8 * (24 * 2 ^ 3800) ≤ 200 * 2 ^ 3800 := by rw [← Nat.mul_assoc]; exact Nat.mul_le_mul_right _ (by decide)
        exact Nat.le_trans h2 h3
      · exact Nat.mul_le_mul fn (Nat.le_trans (Np n) (p2 dn1))
      · exact Nat.le_trans (Nat.le_mul_of_pos_right d (by omega)) dN
      · rw [Nat.one_mul]
        exact Nat.le_trans hN0 (p2 (Nat.le_trans (Nat.le_mul_of_pos_right d (by omega)) dN))
      · have e : Dr 0 * Mt.prN (fun i => Dr (i + 1)) n = Mt.prN Dr (n + 1) := (Mt.prN_front Dr n).symm
        have h := (zF 0 (by omega) k hk').mul (term k hk')
        rw [e] at h
        refine big (c := 24) h pD.1 (Nat.le_trans pD.2 (p2 dN)) ?_ (by decide)
        have e2 : N0 * (Mt.fact n * N0 ^ n) = Mt.fact n * N0 ^ (n + 1) := by rw [Nat.pow_succ]; simp only [Nat.mul_comm, Nat.mul_left_comm, Nat.mul_assoc]
        rw [e2]
        exact Nat.mul_le_mul fn (Nat.le_trans (Np (n + 1)) (p2 dN))
    refine tSeq_step fun N hN => ?_
    walk_at "rd"
    refine ⟨sz_le 2 (by decide), fun p1 n1 => hN _ _ ?_⟩
    clear hN N
    have u1 := same_upd (o := .tup [.int 0, .int 1]) n1
    have q1 : Fq K (upd H p1 (.tup [.int 0, .int 1])) p1 0 := Fq.of upd_same
    generalize upd H p1 (.tup [.int 0, .int 1]) = H1 at u1 q1 ⊢
    refine tSeq_step fun N hN => ?_
    walk_at "rd"
    refine ⟨ts, .inl (u1.seq hTB), by omega, fun k σ H' => ∃ (tt : Addr) (r2 r3 r4 : Option V), σ = [some (.ref TB), some (.ref tt), r2, r3, r4] ∧ Same H H' ∧ Fq K H' tt (Mt.Su (fun k => Mt.sg k * F 0 k * Mt.det n (fun i j => F (i + 1) (Mt.sk k j))) k), ⟨p1, none, none, none, rfl, u1, q1⟩, ?_, ?_⟩
    · rintro k σ H2 hk ⟨tt, r2, r3, r4, rfl, s2, qt⟩
      have hk' : k < n + 1 := by omega
      obtain ⟨z1, z2⟩ := szD k (by omega)
      obtain ⟨z3, z4, z5⟩ := z2 hk'
      obtain ⟨p0, ys, e0, hp0, fp0⟩ := rows 0 (by omega)
      obtain ⟨pk, ek, fk⟩ := fp0.at (j := k) (by simp; omega)
      rw [Mt.cf_map_range, if_pos hk'] at fk
      have a00 : atI ts 0 = some (.ref p0) := atI_nat e0
      refine if_step fun N hN => ?_
      walk_at "rd"
      refine ⟨ts, s2.seq hTB, _, a00, p0, rfl, _, s2.seq hp0, _, atI_nat ek, pk, rfl, _, fk.same s2, ?_⟩
      by_cases zz : F 0 k = 0
      · refine .inl ⟨zz, s2, ?_⟩
        rw [Mt.Su, zz]
        have : Mt.Su (fun k => Mt.sg k * F 0 k * Mt.det n fun i j => F (i + 1) (Mt.sk k j)) k + Mt.sg k * 0 * Mt.det n (fun i j => F (i + 1) (Mt.sk k j)) = Mt.Su (fun k => Mt.sg k * F 0 k * Mt.det n fun i j => F (i + 1) (Mt.sk k j)) k := by grind
        rw [this]
        exact qt
      refine .inr ⟨zz, hN _ _ ?_⟩
      clear hN N
      refine tSeq_step fun N hN => ?_
      simp [tSeq, tIfS, tTest, tB, tOp, rI, rI0, rEq, rNe, scal, tVar, tC, tCB, tCons, tNil, tNext, tRet, tRetN, L2.start, rIxL, rIxT, rFqI, tAsg, gName, tUn, rU, tNot, tNotV, tAnd, tOr, tAndV, tOrV, tIf, tTup, tLst, tCall, tCallS, tDrop, tForR, tForT, tForL, tForE, tForV, gTup, gCons, gNil, gSub, rSetL, tRaise, tTry, tH, Ends.gone, cσ, CPow, tCoR, tCoL, tCoT, tCoX, tForX, tExcInit, tFs, sXset, tXget, tRaiseI, tJoinRev, tChain, rAll, tHno, cx_K, cxU_K, rIn, tSl, tNoPart, tPart, rAppend, tBM, tForR2, tBM0, rClear, rReverse, tPar, tVs, tCoZ, tCoRH, tHE, tListRev, tForZ, tForVL, tForZL, tForK, tForD, sDPut, tDGet2, tDNewK, tDisp, tPairs, tCoLI, tCoRI, tCoKI, tAugS, ipI, rRep, tBreak, rCat]
      refine ⟨TB, ts, rfl, s2.seq hTB, fun p2 n2 => ?_⟩
      rw [show cutV ts (some 1) none = ts.drop 1 from cutV_from ts 1 (by omega)]
      have u2 := same_upd (o := .lst (ts.drop 1)) n2
      have h2 : upd H2 p2 (.lst (ts.drop 1)) p2 = some (.lst (ts.drop 1)) := upd_same
      generalize upd H2 p2 (.lst (ts.drop 1)) = G1 at u2 h2 ⊢
      refine ⟨p2, rfl, _, SqL.of h2, ?_⟩
      have ld : (ts.drop 1).length = n := by rw [List.length_drop]; omega
      rw [ld]
      refine CO.elsD (fun D' i H' v => ∃ p, v = .ref p ∧ p ≠ D' ∧ ∃ ys, H' p = some (.lst ys) ∧ Frs K H' ((List.range n).map fun j => F (i + 1) (Mt.sk k j)) ys) (fun D' i H' H'' x s h => let ⟨p, e, ne, ys, z, f⟩ := h; ⟨p, e, ne, ys, s _ _ z, f.same s⟩) (fun D' i H' ys o x hD h => let ⟨p, e, ne, ys, z, f⟩ := h; ⟨p, e, ne, ys, by rw [upd_ne ne]; exact z, Frs.updL hD f⟩) (by omega) (fun H' s => s.seq (SqL.of h2)) (fun D' i H' x R' hi sm nD' hD' hx kk => ?_) fun RS H4 xs s4 nB hB lx hxs => hN _ _ ?_
      · rw [List.getElem?_drop] at hx
        obtain ⟨pr, zs, er, hrow, frow⟩ := rows (1 + i) (by omega)
        cases er.symm.trans hx
        obtain ⟨ys', hys'⟩ := hD'
        have sA := (s2.trans u2).trans sm
        have lzs := frow.len
        rw [List.length_map, List.length_range] at lzs
        simp [tSeq, tIfS, tTest, tB, tOp, rI, rI0, rEq, rNe, scal, tVar, tC, tCB, tCons, tNil, tNext, tRet, tRetN, L2.start, rIxL, rIxT, rFqI, tAsg, gName, tUn, rU, tNot, tNotV, tAnd, tOr, tAndV, tOrV, tIf, tTup, tLst, tCall, tCallS, tDrop, tForR, tForT, tForL, tForE, tForV, gTup, gCons, gNil, gSub, rSetL, tRaise, tTry, tH, Ends.gone, cσ, CPow, tCoR, tCoL, tCoT, tCoX, tForX, tExcInit, tFs, sXset, tXget, tRaiseI, tJoinRev, tChain, rAll, tHno, cx_K, cxU_K, rIn, tSl, tNoPart, tPart, rAppend, tBM, tForR2, tBM0, rClear, rReverse, tPar, tVs, tCoZ, tCoRH, tHE, tListRev, tForZ, tForVL, tForZL, tForK, tForD, sDPut, tDGet2, tDNewK, tDisp, tPairs, tCoLI, tCoRI, tCoKI, tAugS, ipI, rRep, tBreak, rCat]
        refine ⟨pr, zs, rfl, sA.seq hrow, fun q1 m1 => ?_⟩
        rw [cutV_to zs k (by omega)]
        have w1 := same_upd (o := .lst (zs.take k)) m1
        have g1 : upd H' q1 (.lst (zs.take k)) q1 = some (.lst (zs.take k)) := upd_same
        generalize upd H' q1 (.lst (zs.take k)) = L1 at w1 g1 ⊢
        refine ⟨pr, zs, rfl, (sA.trans w1).seq hrow, fun q2 m2 => ?_⟩
        rw [show ((k : Int) + 1) = ((k + 1 : Nat) : Int) by omega, cutV_from zs (k + 1) (by omega)]
        have w2 := same_upd (o := .lst (zs.drop (k + 1))) m2
        have g2 : upd L1 q2 (.lst (zs.drop (k + 1))) q2 = some (.lst (zs.drop (k + 1))) := upd_same
        generalize upd L1 q2 (.lst (zs.drop (k + 1))) = L2' at w2 g2 ⊢
        refine ⟨q1, rfl, q2, rfl, _, w2 _ _ g1, _, g2, sz_le _ (by simp; omega), fun q3 m3 => ?_⟩
        have w3 := same_upd (o := .lst (zs.take k ++ zs.drop (k + 1))) m3
        refine kk _ _ ((w1.trans w2).trans w3) ⟨q3, rfl, fun z => ?_, _, upd_same, ?_⟩
        · rw [z, (w1.trans w2) _ _ hys'] at m3
          cases m3
        · rw [← Mt.sk_list (fun j => F (i + 1) j) hk']
          have fr2 := frow.same (((sA.trans w1).trans w2).trans w3)
          rw [show 1 + i = i + 1 by omega] at fr2
          exact (fr2.take k).append (fr2.drop (k + 1))
      clear hN N
      refine tSeq_step fun N hN => ?_
      walk_at "rd"
      have sB := (s2.trans u2).trans s4
      refine ⟨ts, sB.seq hTB, _, a00, p0, rfl, _, sB.seq hp0, _, atI_nat ek, n, by omega, RS, fun i j => F (i + 1) (Mt.sk k j), fun i => Dr (i + 1), N0, d, rfl, ⟨xs, SqL.of hB, lx, fun i hi => ?_⟩, by omega, fun i hi j hj => zF (i + 1) (by omega) (Mt.sk k j) (by unfold Mt.sk; split <;> omega), fun i => hD (i + 1), hN0, Nat.le_trans (Nat.mul_le_mul_left d (by omega)) dn, fun pd H5 s5 q5 => ?_⟩
      · obtain ⟨p, e, _, ys, z, f⟩ := hxs i xs[i] (by rw [List.getElem?_eq_getElem (by omega)])
        exact ⟨p, ys, by rw [List.getElem?_eq_getElem (by omega), e], SqL.of z, f⟩
      refine ⟨pk, pd, _, _, rfl, fk.same (sB.trans s5), q5, z4.mono (by decide), z3.mono (by decide), fun r1 H6 s6 n6 h6 => hN _ _ ?_⟩
      clear hN N
      have sC := sB.trans (s5.trans s6)
      have q6 : Fq K H6 r1 (F 0 k * Mt.det n (fun i j => F (i + 1) (Mt.sk k j))) := Fq.of h6
      refine tSeq_step fun N hN => ?_
      have next : ∀ pz H7, Same H6 H7 → Fq K H7 pz (Mt.sg k * F 0 k * Mt.det n (fun i j => F (i + 1) (Mt.sk k j))) → N [some (.ref TB), some (.ref tt), some (.int k), some (.ref RS), some (.ref pz)] H7 := fun pz H7 s7 q7 => by
        refine hN _ _ ?_
        clear hN N
        have zz : Sz 3820 (Mt.sg k * F 0 k * Mt.det n (fun i j => F (i + 1) (Mt.sk k j))) := by
          unfold Mt.sg
          split
          · rw [Rat.one_mul]; exact z5
          · have e : -1 * F 0 k * Mt.det n (fun i j => F (i + 1) (Mt.sk k j)) = -(F 0 k * Mt.det n (fun i j => F (i + 1) (Mt.sk k j))) := by grind
            rw [e]; exact z5.neg
        walk_at "rd"
        refine ⟨tt, pz, _, _, rfl, qt.same ((u2.trans s4).trans ((s5.trans s6).trans s7)), q7, z1.mono (by decide), zz.mono (by decide), fun r2 H8 s8 n8 h8 => ?_⟩
        exact ⟨r2, rfl, (sC.trans s7).trans s8, Fq.of h8⟩
      clear hN
      walk_at "rd"
      split
      · rename_i ho
        refine ⟨_, q6, _, q6, sz_le 2 (by decide), fun p7 n7 => ?_⟩
        have e : Mt.sg k = -1 := by unfold Mt.sg; rw [if_neg (by omega)]
        have e2 : HO.tup [V.int (-(F 0 k * Mt.det n (fun i j => F (i + 1) (Mt.sk k j))).num), V.int ((F 0 k * Mt.det n (fun i j => F (i + 1) (Mt.sk k j))).den : Int)] = frO (-(F 0 k * Mt.det n (fun i j => F (i + 1) (Mt.sk k j)))) := by rw [frO, Rat.neg_num, Rat.neg_den]
        rw [e2]
        refine next p7 _ (same_upd n7) ?_
        have e3 : Mt.sg k * F 0 k * Mt.det n (fun i j => F (i + 1) (Mt.sk k j)) = -(F 0 k * Mt.det n (fun i j => F (i + 1) (Mt.sk k j))) := by rw [e]; grind
        rw [e3]
        exact Fq.of upd_same
      · rename_i ho
        refine next r1 H6 (Same.refl _) ?_
        have e : Mt.sg k = 1 := by unfold Mt.sg; rw [if_pos (by omega)]
        rw [e, Rat.one_mul]
        exact q6
    · rintro σ H2 ⟨tt, r2, r3, r4, rfl, s2, qt⟩
      refine hN _ _ ?_
      clear hN N
      rw [lt, ← Mt.det_succ] at qt
      walk_at "rd"
      exact hq tt H2 s2 qt
theorem ok__law_measure_by {f : Addr} {fd : FuncData} (F : Fun K "_law_measure_by" "_law_measure_by" s__law_measure_by f fd) (m : mg "_law_measure_by" = some (.ref f)) (T : Tx w K mg C_NOUGHT C_NoFraction C_NoWeights C_ONE C_TooFar) (c__law_add : Callee P w K mg base 3 "_law_add" ["_law_a", "_law_b"] (spBin K (fun a b => a + b))) (c__law_mul : Callee P w K mg base 3 "_law_mul" ["_law_a", "_law_b"] (spBin K (fun a b => a * b))) : Callee P w K mg base 9 "_law_measure_by" ["_law_rows"] (spLap K 6) := by
  have r0 : Callee P w K mg base 3 "_law_measure_by" ["_law_rows"] (spLap K 0) := by
    refine ⟨f, fd, ?_, m, F.kp, F.binds fun _ _ _ _ _ _ us hl => match us, hl with | [_], _ => rfl⟩
    refine F.okE sc__law_measure_by (fun vs H Q E h => ?_) (fun cdv A outer s H vs Q E hr h => ?_)
    · obtain ⟨n, hn, _⟩ := h
      omega
    · obtain ⟨n, hn, _⟩ := h
      omega
  have r1 := rec__law_measure_by F m T c__law_add c__law_mul 3 0 (by decide) r0
  have r2 := rec__law_measure_by F m T c__law_add c__law_mul 4 1 (by decide) r1
  have r3 := rec__law_measure_by F m T c__law_add c__law_mul 5 2 (by decide) r2
  have r4 := rec__law_measure_by F m T c__law_add c__law_mul 6 3 (by decide) r3
  have r5 := rec__law_measure_by F m T c__law_add c__law_mul 7 4 (by decide) r4
  have r6 := rec__law_measure_by F m T c__law_add c__law_mul 8 5 (by decide) r5
  exact r6
abbrev s__law_row_by : Stmt := top 44
theorem sc__law_row_by : FnScope ["_law_levels", "_law_downs", "_law_row", "_law_ahead", "_law_h", "_law_fresh", "_law_k"] ["_law_levels", "_law_downs"] (defScope s__law_row_by) := ⟨rfl, rfl, rfl, by decide +kernel, rfl, by decide +kernel, by decide +kernel⟩
theorem ok__law_row_by {f : Addr} {fd : FuncData} (F : Fun K "_law_row_by" "_law_row_by" s__law_row_by f fd) (m : mg "_law_row_by" = some (.ref f)) (T : Tx w K mg C_NOUGHT C_NoFraction C_NoWeights C_ONE C_TooFar) (c__law_mul : Callee P w K mg base 3 "_law_mul" ["_law_a", "_law_b"] (spBin K (fun a b => a * b))) (c__law_take : Callee P w K mg base 3 "_law_take" ["_law_a", "_law_b"] (spBin K (fun a b => a - b))) : Callee P w K mg base 4 "_law_row_by" ["_law_levels", "_law_downs"] (spRowBy K) := by
  refine ⟨f, fd, ?_, m, F.kp, F.binds fun _ _ _ _ _ _ us hl => match us, hl with | [_, _], _ => rfl⟩
  refine F.okE sc__law_row_by (fun vs H Q E h => ?_) (fun cdv A outer s H vs Q E hr h => ?_)
  · obtain ⟨_, _, _, _, _, _, rfl, _⟩ := h
    rfl
  · obtain ⟨D1, D2, x1, x2, L, D, rfl, hD1, hD2, f1, f2, ws, hq⟩ := h
    refine ⟨_, (pss_cons (ps_set (i := 2) sc__law_row_by.nd rfl (Or.inl rfl) (pe_lst (pa_cons (pe_lst (pa_cons (pe_tup (pa_cons pe_int (pa_cons pe_int pa_nil))) pa_nil)) pa_nil))) (pss_cons (ps_set (i := 3) sc__law_row_by.nd rfl (Or.inl rfl) (pe_lst pa_nil)) (pss_cons (ps_forR rfl PassesOwn.never T.b_range (pe_callB call_len_seq (by rfl) T.b_len PySem.boot_len (pa_cons (pv 0) pa_nil)) (pg_name (i := 4) sc__law_row_by.nd rfl (Or.inl rfl)) (pss_cons (ps_set (i := 5) sc__law_row_by.nd rfl (Or.inl rfl) (pe_op op_cat (pe_lst (pa_cons (pe_tup (pa_cons pe_int (pa_cons pe_int pa_nil))) pa_nil)) (pe_ix ix_list (pv 2) (pe_un un_neg pe_int) (fun _ _ => rfl)))) (pss_cons (ps_forR rfl PassesOwn.never T.b_range (pe_callB call_len_seq (by rfl) T.b_len PySem.boot_len (pa_cons (pe_ix ix_list (pv 2) (pe_un un_neg pe_int) (fun _ _ => rfl)) pa_nil)) (pg_name (i := 6) sc__law_row_by.nd rfl (Or.inl rfl)) (pss_one (ps_asg (pe_c c__law_take (hr.mono (by decide)) np (pa_cons (pe_ix ix_list (pv 5) (pv 6) (fun _ _ => rfl)) (pa_cons (pe_c c__law_mul (hr.mono (by decide)) np (pa_cons (pe_ix ix_list (pv 0) (pv 4) (fun _ _ => rfl)) (pa_cons (pe_ix ix_list (pe_ix ix_list (pv 2) (pe_un un_neg pe_int) (fun _ _ => rfl)) (pv 6) (fun _ _ => rfl)) pa_nil))) pa_nil))) (pg_sub (pv 5) (pv 6) set_list)))) (pss_cons (ps_forR rfl PassesOwn.never T.b_range (pe_callB call_len_seq (by rfl) T.b_len PySem.boot_len (pa_cons (pv 3) pa_nil)) (pg_name (i := 6) sc__law_row_by.nd rfl (Or.inl rfl)) (pss_one (ps_asg (pe_c c__law_take (hr.mono (by decide)) np (pa_cons (pe_ix ix_list (pv 5) (pv 6) (fun _ _ => rfl)) (pa_cons (pe_c c__law_mul (hr.mono (by decide)) np (pa_cons (pe_ix ix_list (pv 1) (pe_op op_sub (pv 4) pe_int) (fun _ _ => rfl)) (pa_cons (pe_ix ix_list (pv 3) (pv 6) (fun _ _ => rfl)) pa_nil))) pa_nil))) (pg_sub (pv 5) (pv 6) set_list)))) (pss_cons (ps_set (i := 3) sc__law_row_by.nd rfl (Or.inl rfl) (pe_ix ix_list (pv 2) (pe_un un_neg pe_int) (fun _ _ => rfl))) (pss_one (ps_expr (pe_bm PySem.F.plainAttrs_list PySem.F.slot_list_append PySem.F.type_list_append mt_append (pv 2) (pa_cons (pv 5) pa_nil))))))))) (pss_one (ps_ret (pv 2)))))), ?_⟩
    have wn := ws.n
    have wm := ws.m
    have l1 := f1.len
    have l2 := f2.len
    refine tSeq_step fun N hN => ?_
    walk_at "rd"
    refine ⟨sz_le 2 (by decide), fun p np => ⟨sz_le 1 (by decide), fun R0 n0 => ⟨sz_le 1 (by decide), fun RW nW => hN _ _ ?_⟩⟩⟩
    clear hN N
    have w1 := same_upd (o := .tup [.int 1, .int 1]) np
    have q1 : Fq K (upd H p (.tup [.int 1, .int 1])) p 1 := Fq.of upd_same
    generalize upd H p (.tup [.int 1, .int 1]) = G1 at w1 q1 n0 nW ⊢
    have w2 := same_upd (o := .lst [.ref p]) n0
    have g2 : upd G1 R0 (.lst [.ref p]) R0 = some (.lst [.ref p]) := upd_same
    have f0 : Frs K (upd G1 R0 (.lst [.ref p])) (Mt.rp L D 0) [.ref p] := Frs.cons (q1.same w2) Frs.nil
    generalize upd G1 R0 (.lst [.ref p]) = G2 at w2 g2 f0 nW ⊢
    have w3 := same_upd (o := .lst [.ref R0]) nW
    have g3 : upd G2 RW (.lst [.ref R0]) RW = some (.lst [.ref R0]) := upd_same
    have ne0 : R0 ≠ RW := ne_of_none g2 nW
    generalize upd G2 RW (.lst [.ref R0]) = G3 at w3 g3 ⊢
    have nW0 : H RW = none := (w1.trans w2).free nW
    have rw0 : RowsAt K G3 RW (Mt.rp L D) 1 := ⟨_, g3, rfl, fun j hj => by
      obtain rfl : j = 0 := by omega
      exact ⟨R0, _, rfl, w3 _ _ g2, f0.same w3, ne0⟩⟩
    have v3 := (w1.trans w2).trans w3
    refine tSeq_step fun N hN => ?_
    walk_at "rd"
    refine fun A0 nA => hN _ _ ?_
    clear hN N
    have w4 := same_upd (o := .lst []) nA
    have g4 : upd G3 A0 (.lst []) A0 = some (.lst []) := upd_same
    have neA : A0 ≠ RW := fun z => by rw [z, g3] at nA; cases nA
    generalize upd G3 A0 (.lst []) = G4 at w4 g4 ⊢
    replace rw0 := rw0.same w4
    replace v3 := v3.trans w4
    refine tSeq_step fun N hN => ?_
    walk_at "rd"
    refine ⟨_, .inl (SqL.of (v3 _ _ hD1)), by omega, fun i σ H' => ∃ (AH : Addr) (r4 r5 r6 : Option V) (as : List V), σ = [some (.ref D1), some (.ref D2), some (.ref RW), some (.ref AH), r4, r5, r6] ∧ Same H H' ∧ RowsAt K H' RW (Mt.rp L D) (i + 1) ∧ AH ≠ RW ∧ H' AH = some (.lst as) ∧ Frs K H' (if i = 0 then [] else Mt.rp L D (i - 1)) as, ⟨A0, none, none, none, [], rfl, v3, rw0, neA, g4, Frs.nil⟩, ?_, ?_⟩
    · rintro i σ H3 hi ⟨AH, r4, r5, r6, as, rfl, sm, rows, nAH, hAH, fAH⟩
      have hi2 : i < L.length := by omega
      obtain ⟨zs, hz, lz, rws⟩ := id rows
      obtain ⟨pl, ys, el, hl, fl, nl⟩ := rws i (by omega)
      have ly := fl.len
      rw [Mt.rp_len] at ly
      have la := fAH.len
      have az : atI zs (-1) = some (.ref pl) := atI_end (by rw [lz, Nat.add_sub_cancel]; exact el)
      refine tSeq_step fun N hN => ?_
      walk_at "rd"
      refine ⟨sz_le 2 (by decide), fun p2 n2 => ⟨sz_le 1 (by decide), fun p3 n3 => ?_⟩⟩
      have t1 := same_upd (o := .tup [.int 0, .int 1]) n2
      have qz : Fq K (upd H3 p2 (.tup [.int 0, .int 1])) p2 0 := Fq.of upd_same
      generalize upd H3 p2 (.tup [.int 0, .int 1]) = H4 at t1 qz n3 ⊢
      have t2 := same_upd (o := .lst [.ref p2]) n3
      have e3 : upd H4 p3 (.lst [.ref p2]) p3 = some (.lst [.ref p2]) := upd_same
      generalize upd H4 p3 (.lst [.ref p2]) = H5 at t2 e3 ⊢
      have t12 := t1.trans t2
      refine ⟨zs, SqL.of (t12 _ _ hz), _, az, p3, pl, _, _, rfl, rfl, e3, t12 _ _ hl, sz_le _ (by simp; omega), fun FR nF => hN _ _ ?_⟩
      clear hN N
      have uF := same_upd (o := .lst ([V.ref p2] ++ ys)) nF
      have hF : upd H5 FR (.lst ([V.ref p2] ++ ys)) FR = some (.lst ([V.ref p2] ++ ys)) := upd_same
      have fF : Frs K (upd H5 FR (.lst ([V.ref p2] ++ ys))) (fr1 L D i 0 0) ([V.ref p2] ++ ys) := by
        rw [fr1_start]
        exact Frs.cons ((qz.same t2).same uF) ((fl.same t12).same uF)
      generalize upd H5 FR (.lst ([V.ref p2] ++ ys)) = H6 at uF hF fF ⊢
      have s6 : Same H3 H6 := t12.trans uF
      have nF3 : H3 FR = none := t12.free nF
      refine tSeq_step fun N hN => ?_
      walk_at "rd"
      have sr : ∀ h j, h ≤ 9 → Sz 321 (Mt.cf (Mt.rp L D h) j) := fun h j hh => Ln.sz (rp_ln ws hh) j
      have ssh : ∀ j, Sz 321 (Mt.sh (Mt.rp L D i) 1 j) := fun j => by
        rw [Mt.sh]
        split
        · exact sr i _ (by omega)
        · exact Sz.zero (by decide)
      have s1c : ∀ c d j, j < i + 2 → Sz 3900 (Mt.cf (fr1 L D i c d) j) := fun c d j hj => by
        rw [fr1_at hj]
        have z1 : Sz 1621 (if j < c then Mt.cf L i * Mt.cf (Mt.rp L D i) j else 0) := by
          split
          · exact ((ws.sL i).mul (sr i j (by omega))).mono (by decide)
          · exact Sz.zero (by decide)
        have z2 : Sz 1621 (if j < d then Mt.cf D (i - 1) * Mt.cf (Mt.rp L D (i - 1)) j else 0) := by
          split
          · exact ((ws.sD (i - 1)).mul (sr (i - 1) j (by omega))).mono (by decide)
          · exact Sz.zero (by decide)
        exact (((ssh j).sub z1).sub z2).mono (by decide)
      have x1H : ∀ H', Same H3 H' → H' D1 = some (.lst x1) := fun H' s => s _ _ (sm _ _ hD1)
      have x2H : ∀ H', Same H3 H' → H' D2 = some (.lst x2) := fun H' s => s _ _ (sm _ _ hD2)
      refine ⟨zs, SqL.of (s6 _ _ hz), _, az, pl, rfl, ys, .inl (SqL.of (s6 _ _ hl)), by omega, fun c σ H' => ∃ (r6 : Option V) (us : List V), σ = [some (.ref D1), some (.ref D2), some (.ref RW), some (.ref AH), some (.int i), some (.ref FR), r6] ∧ Same H3 H' ∧ H' FR = some (.lst us) ∧ Frs K H' (fr1 L D i c 0) us, ⟨r6, _, rfl, s6, hF, fF⟩, ?_, ?_⟩
      · rintro c σ H7 hc ⟨r6, us, rfl, s7, hF7, fF7⟩
        have lu := fF7.len
        rw [fr1_len] at lu
        obtain ⟨pa, ea, qa⟩ := fF7.at (j := c) (by rw [fr1_len]; omega)
        obtain ⟨pb, eb, qb⟩ := f1.at (j := i) (by omega)
        obtain ⟨pc, ec, qc⟩ := fl.at (j := c) (by rw [Mt.rp_len]; omega)
        walk_at "rd"
        refine ⟨us, SqL.of hF7, _, atI_nat ea, x1, SqL.of (x1H _ s7), _, atI_nat eb, zs, SqL.of (s7 _ _ hz), _, az, pl, rfl, ys, SqL.of (s7 _ _ hl), _, atI_nat ec, ?_⟩
        refine ⟨pb, pc, _, _, rfl, (qb.same sm).same s7, qc.same s7, (ws.sL i).mono (by decide), (sr i c (by omega)).mono (by decide), fun r1 H8 s8 n8 h8 => ?_⟩
        refine ⟨pa, r1, _, _, rfl, qa.same s8, Fq.of h8, (s1c c 0 c (by omega)).mono (by decide), ((ws.sL i).mul (sr i c (by omega))).mono (by decide), fun r2 H9 s9 n9 h9 => ?_⟩
        have hF9 := s9 _ _ (s8 _ _ hF7)
        refine ⟨us, hF9, _, ixN_nat (by omega), ((s7.trans s8).trans s9).updL nF3, _, upd_same, ?_⟩
        rw [← fr1_set1 L D (show c < i + 2 by omega)]
        exact Frs.updL hF9 (Frs.set c (fF7.same (s8.trans s9)) (Fq.of h9))
      · rintro σ H7 ⟨r6, us, rfl, s7, hF7, fF7⟩
        refine hN _ _ ?_
        clear hN N
        rw [← ly] at fF7
        refine tSeq_step fun N hN => ?_
        walk_at "rd"
        have lda : as.length = if i = 0 then 0 else i := by
          rw [← la]
          split
          · rfl
          · rw [Mt.rp_len]; omega
        have ld9 : as.length ≤ i := by rw [lda]; split <;> omega
        refine ⟨as, .inl (SqL.of (s7 _ _ hAH)), by omega, fun d σ H' => ∃ (r6 : Option V) (us : List V), σ = [some (.ref D1), some (.ref D2), some (.ref RW), some (.ref AH), some (.int i), some (.ref FR), r6] ∧ Same H3 H' ∧ H' FR = some (.lst us) ∧ Frs K H' (fr1 L D i (i + 1) d) us, ⟨r6, _, rfl, s7, hF7, fF7⟩, ?_, ?_⟩
        · rintro d σ H8 hd ⟨r6, us, rfl, s8, hF8, fF8⟩
          have i0 : i ≠ 0 := fun z => by rw [lda, if_pos z] at hd; omega
          rw [if_neg i0] at fAH
          have lu := fF8.len
          rw [fr1_len] at lu
          obtain ⟨pa, ea, qa⟩ := fF8.at (j := d) (by rw [fr1_len]; omega)
          obtain ⟨pb, eb, qb⟩ := f2.at (j := i - 1) (by omega)
          obtain ⟨pc, ec, qc⟩ := fAH.at (j := d) (by rw [Mt.rp_len]; omega)
          have ab := atI_nat eb
          rw [show ((i - 1 : Nat) : Int) = (i : Int) - 1 by omega] at ab
          walk_at "rd"
          refine ⟨us, SqL.of hF8, _, atI_nat ea, x2, SqL.of (x2H _ s8), _, ab, as, SqL.of (s8 _ _ hAH), _, atI_nat ec, ?_⟩
          refine ⟨pb, pc, _, _, rfl, (qb.same sm).same s8, qc.same s8, (ws.sD (i - 1)).mono (by decide), (sr (i - 1) d (by omega)).mono (by decide), fun r1 H9 s9 n9 h9 => ?_⟩
          refine ⟨pa, r1, _, _, rfl, qa.same s9, Fq.of h9, (s1c (i + 1) d d (by omega)).mono (by decide), ((ws.sD (i - 1)).mul (sr (i - 1) d (by omega))).mono (by decide), fun r2 H10 s10 n10 h10 => ?_⟩
          have hF10 := s10 _ _ (s9 _ _ hF8)
          refine ⟨us, hF10, _, ixN_nat (by omega), ((s8.trans s9).trans s10).updL nF3, _, upd_same, ?_⟩
          rw [← fr1_set2 L D (show d < i + 2 by omega)]
          exact Frs.updL hF10 (Frs.set d (fF8.same (s9.trans s10)) (Fq.of h10))
        · rintro σ H8 ⟨r6, us, rfl, s8, hF8, fF8⟩
          refine hN _ _ ?_
          clear hN N
          rw [lda, fr1_end] at fF8
          refine tSeq_step fun N hN => ?_
          walk_at "rd"
          refine ⟨zs, SqL.of (s8 _ _ hz), _, az, hN _ _ ?_⟩
          clear hN N
          have neF : FR ≠ RW := fun z => by rw [z, hz] at nF3; cases nF3
          walk_at "rd"
          refine ⟨.inl ⟨rfl, _, SqL.of (s8 _ _ hz)⟩, zs, s8 _ _ hz, small1000 (by omega), (sm.trans s8).updL nW0, ?_, nl, ys, by rw [upd_ne nl]; exact s8 _ _ hl, Frs.updL (s8 _ _ hz) (fl.same s8)⟩
          exact RowsAt.more (s8 _ _ hz) lz (fun j hj => let ⟨p, ys, e, h, f, n⟩ := rws j hj; ⟨p, ys, e, s8 _ _ h, f.same s8, n⟩) hF8 fF8 neF
    · rintro σ H3 ⟨AH, r4, r5, r6, as, rfl, sm, rows, nAH, hAH, fAH⟩
      refine hN _ _ ?_
      clear hN N
      walk_at "rd"
      rw [← l1] at rows
      exact hq RW H3 sm nW0 rows
abbrev s__law_table_of : Stmt := top 45
theorem sc__law_table_of : FnScope ["_law_numbers", "_law_size", "_law_shift"] ["_law_numbers", "_law_size", "_law_shift"] (defScope s__law_table_of) := ⟨rfl, rfl, rfl, by decide +kernel, rfl, by decide +kernel, by decide +kernel⟩
theorem ok__law_table_of {f : Addr} {fd : FuncData} (F : Fun K "_law_table_of" "_law_table_of" s__law_table_of f fd) (m : mg "_law_table_of" = some (.ref f)) (T : Tx w K mg C_NOUGHT C_NoFraction C_NoWeights C_ONE C_TooFar) : Callee P w K mg base 1 "_law_table_of" ["_law_numbers", "_law_size", "_law_shift"] (spTbl53 K) := by
  refine ⟨f, fd, ?_, m, F.kp, F.binds fun _ _ _ _ _ _ us hl => match us, hl with | [_, _, _], _ => rfl⟩
  refine F.okE sc__law_table_of (fun vs H Q E h => ?_) (fun cdv A outer s H vs Q E hr h => ?_)
  · obtain ⟨_, _, _, _, _, rfl, _⟩ := h
    rfl
  · obtain ⟨m, xs, ms, n, sh, rfl, hm, fm, hn, hb, lm, hq⟩ := h
    refine ⟨_, (pss_one (ps_ret (PCo.pe (coR T.b_range (pv 1) (fun _ hpi => pe_compCN "_law_i" [("_law_size", 1, _), ("_law_shift", 2, _), ("_law_numbers", 0, _)] rfl hpi (fun _ _ _ _ _ => (pg_name (i := 0) (by decide +kernel : List.Nodup [("_law_i" : Str), ("_law_size" : Str), ("_law_shift" : Str), ("_law_numbers" : Str)]) rfl (Or.inr rfl) (Or.inl rfl)).mo) (fun _ _ _ _ _ => PE.mo (PCo.pe (coR T.b_range (pv 1) (fun _ hpi => pe_comp3 ["_law_j"] "_law_shift" 2 "_law_numbers" 3 "_law_i" 0 rfl hpi (fun _ _ _ _ _ => (pg_name (i := 0) (by decide +kernel : List.Nodup [("_law_j" : Str), ("_law_shift" : Str), ("_law_numbers" : Str), ("_law_i" : Str)]) rfl (Or.inl rfl) (Or.inr rfl)).mo) (fun _ _ _ _ _ => PE.mo (pe_ix (show IxR _ (rIxL K) from ix_list) (pv 2) (pe_op op_add (pe_op op_add (pv 3) (pv 0)) (pv 1)) (fun _ _ => rfl))) rfl rfl rfl rfl rfl rfl rfl rfl rfl rfl rfl rfl rfl)))) rfl ⟨rfl, rfl, rfl, rfl, rfl, rfl, rfl, rfl, rfl, rfl, rfl, rfl, trivial⟩ (by decide +kernel : List.Nodup [("_law_size" : Str), ("_law_shift" : Str), ("_law_numbers" : Str)]) (fun p hp hf => (by decide +kernel : ∀ p ∈ _, p.2 = NameKind.free → p.1 ∈ [("_law_size" : Str), ("_law_shift" : Str), ("_law_numbers" : Str)]) p hp hf) (fun p hp hf => (by decide +kernel : ∀ p ∈ _, p.2 = NameKind.cell → p.1 = ("_law_i" : Str)) p hp hf) (by decide +kernel : ("_law_i" : Str) ∉ [("_law_size" : Str), ("_law_shift" : Str), ("_law_numbers" : Str)]) (fun _ _ => rfl) (fun _ => rfl)))))), ?_⟩
    walk_at "rd"
    refine ⟨by omega, CO.elsD (fun D' i H' v => ∃ p, v = .ref p ∧ p ≠ D' ∧ ∃ ys, H' p = some (.lst ys) ∧ Frs K H' ((List.range n).map fun j => Mt.cf ms (i + j + sh)) ys) (fun D' i H' H'' x s h => let ⟨p, e, ne, ys, z, f⟩ := h; ⟨p, e, ne, ys, s _ _ z, f.same s⟩) (fun D' i H' ys o x hD h => let ⟨p, e, ne, ys, z, f⟩ := h; ⟨p, e, ne, ys, by rw [upd_ne ne]; exact z, Frs.updL hD f⟩) (by omega) (fun _ _ => trivial) (fun D' i H' x R' hi sm nD' hD' hx kk => ?_) fun TT H1 zs s1 nT hT lx hxs => ?_⟩
    · subst hx
      obtain ⟨ys', hys'⟩ := hD'
      walk_at "rd"
      refine ⟨by omega, CO.frs (K := K) (fun j => Mt.cf ms (i + j + sh)) (by omega) (fun _ _ => trivial) (fun j H'' x R'' hj sm2 hx2 kk2 => ?_) fun D2 H9 ys s9 n9 h9 f9 => kk _ _ s9 ⟨D2, rfl, fun z => ?_, ys, h9, f9⟩⟩
      · subst hx2
        obtain ⟨p, e, q⟩ := fm.at (j := i + j + sh) (by omega)
        have a := atI_nat e
        rw [show ((i + j + sh : Nat) : Int) = (i : Int) + (j : Int) + (sh : Int) by omega] at a
        walk_at "rd"
        exact ⟨xs, (sm.trans sm2).seq hm, _, a, kk2 _ _ (Same.refl _) (q.same (sm.trans sm2))⟩
      · rw [z, hys'] at n9
        cases n9
    · refine hq TT H1 s1 nT ⟨zs, hT, lx, fun i hi => ?_⟩
      obtain ⟨p, e, ne, ys, z, f⟩ := hxs i zs[i] (by rw [List.getElem?_eq_getElem (by omega)])
      exact ⟨p, ys, by rw [List.getElem?_eq_getElem (by omega), e], ne, z, f⟩
abbrev s__law_product : Stmt := top 46
theorem sc__law_product : FnScope ["_law_downs", "_law_n", "_law_total", "_law_h", "_law_step"] ["_law_downs", "_law_n"] (defScope s__law_product) := ⟨rfl, rfl, rfl, by decide +kernel, rfl, by decide +kernel, by decide +kernel⟩
theorem ok__law_product {f : Addr} {fd : FuncData} (F : Fun K "_law_product" "_law_product" s__law_product f fd) (m : mg "_law_product" = some (.ref f)) (T : Tx w K mg C_NOUGHT C_NoFraction C_NoWeights C_ONE C_TooFar) (c__law_mul : Callee P w K mg base 3 "_law_mul" ["_law_a", "_law_b"] (spBin K (fun a b => a * b))) : Callee P w K mg base 4 "_law_product" ["_law_downs", "_law_n"] (spProd53 K) := by
  refine ⟨f, fd, ?_, m, F.kp, F.binds fun _ _ _ _ _ _ us hl => match us, hl with | [_, _], _ => rfl⟩
  refine F.okE sc__law_product (fun vs H Q E h => ?_) (fun cdv A outer s H vs Q E hr h => ?_)
  · obtain ⟨_, _, _, _, rfl, _⟩ := h
    rfl
  · obtain ⟨D2, x2, D, n, rfl, hD2, f2, wd, ld, hn, hq⟩ := h
    refine ⟨_, (pss_cons (ps_set (i := 2) sc__law_product.nd rfl (Or.inl rfl) (pe_tup (pa_cons pe_int (pa_cons pe_int pa_nil)))) (pss_cons (ps_forR2 rfl PassesOwn.never T.b_range pe_int (pv 1) (pg_name (i := 3) sc__law_product.nd rfl (Or.inl rfl)) (pss_one (ps_forR rfl PassesOwn.never T.b_range (pe_op op_sub (pv 1) (pv 3)) (pg_name (i := 4) sc__law_product.nd rfl (Or.inl rfl)) (pss_one (ps_set (i := 2) sc__law_product.nd rfl (Or.inl rfl) (pe_c c__law_mul (hr.mono (by decide)) np (pa_cons (pv 2) (pa_cons (pe_ix ix_list (pv 0) (pe_op op_sub (pv 3) pe_int) (fun _ _ => rfl)) pa_nil)))))))) (pss_one (ps_ret (pv 2))))), ?_⟩
    refine tSeq_step fun N hN => ?_
    walk_at "rd"
    refine ⟨sz_le 2 (by decide), fun p1 n1 => hN _ _ ?_⟩
    clear hN N
    have u1 := same_upd (o := .tup [.int 1, .int 1]) n1
    have q1 : Fq K (upd H p1 (.tup [.int 1, .int 1])) p1 1 := Fq.of upd_same
    generalize upd H p1 (.tup [.int 1, .int 1]) = H1 at u1 q1 ⊢
    have l2 := f2.len
    have dz : ∀ h, Sz 35 (Mt.cf D h) := fun h => lat_sz (m := 35) (Mt.wg_cf wd h) (by decide) (by decide) (by decide)
    have pz : ∀ h s, Sz (35 * s + 1) (Mt.pw (Mt.cf D h) s) := fun h s => by
      induction s with
      | zero => rw [Mt.pw]; exact ⟨by show (_ : Nat) < _; decide, by show (_ : Nat) < _; decide⟩
      | succ s ih => rw [Mt.pw]; exact (ih.mul (dz h)).mono (by omega)
    have fz : ∀ m, Sz (300 * m + 1) (Mt.prF (fun h => Mt.pw (Mt.cf D h) (n - 1 - h)) m) := fun m => by
      induction m with
      | zero => rw [Mt.prF]; exact ⟨by show (_ : Nat) < _; decide, by show (_ : Nat) < _; decide⟩
      | succ m ih => rw [Mt.prF]; exact (ih.mul (pz m (n - 1 - m))).mono (by omega)
    refine tSeq_step fun N hN => ?_
    walk_at "rd"
    refine ⟨by omega, fun m σ H' => ∃ (tt : Addr) (r3 r4 : Option V), σ = [some (.ref D2), some (.int n), some (.ref tt), r3, r4] ∧ Same H H' ∧ Fq K H' tt (Mt.prF (fun h => Mt.pw (Mt.cf D h) (n - 1 - h)) m), ⟨p1, none, none, rfl, u1, q1⟩, ?_, ?_⟩
    · rintro m σ H2 hm ⟨tt, r3, r4, rfl, s2, qt⟩
      obtain ⟨pd, ed, qd⟩ := f2.at (j := m) (by omega)
      have ad := atI_nat ed
      rw [show ((m : Nat) : Int) = 1 + (m : Int) - 1 by omega] at ad
      walk_at "rd"
      have et : ((n : Int) - (1 + (m : Int))).toNat = n - 1 - m := by omega
      rw [et]
      have ez : ∀ s, s ≤ n - 1 - m → Sz 3000 (Mt.prF (fun h => Mt.pw (Mt.cf D h) (n - 1 - h)) m * Mt.pw (Mt.cf D m) s) := fun s hs => ((fz m).mul (pz m s)).mono (by omega)
      refine ⟨by omega, by omega, fun s σ H' => ∃ (tt : Addr) (r4 : Option V), σ = [some (.ref D2), some (.int n), some (.ref tt), some (.int (1 + (m : Int))), r4] ∧ Same H H' ∧ Fq K H' tt (Mt.prF (fun h => Mt.pw (Mt.cf D h) (n - 1 - h)) m * Mt.pw (Mt.cf D m) s), ⟨tt, r4, rfl, s2, by rw [Mt.pw, Rat.mul_one]; exact qt⟩, ?_, ?_⟩
      · rintro s σ H3 hs ⟨tt, r4, rfl, s3, qt⟩
        walk_at "rd"
        refine ⟨x2, SqL.of (s3 _ _ hD2), _, ad, tt, pd, _, _, rfl, qt, qd.same s3, (ez s (by omega)).mono (by decide), (dz m).mono (by decide), fun r H4 s4 n4 h4 => ?_⟩
        refine ⟨r, rfl, s3.trans s4, ?_⟩
        rw [Mt.pw, ← Rat.mul_assoc]
        exact Fq.of h4
      · rintro σ H3 ⟨tt, r4, rfl, s3, qt⟩
        exact ⟨tt, ⟨_, _, rfl⟩, s3, qt⟩
    · rintro σ H2 ⟨tt, r3, r4, rfl, s2, qt⟩
      refine hN _ _ ?_
      clear hN N
      walk_at "rd"
      refine hq tt H2 s2 ?_
      rcases n with _ | n
      · exact qt
      · have e := Mt.prod_is (Mt.cf D) n
        rw [← e]
        exact qt
abbrev s_law : Stmt := top 47
theorem sc_law : FnScope ["_law_script", "_law_c", "_law_k", "_law_way", "_law_levels", "_law_downs", "_law_told", "_law_row", "_law_n", "_law_due", "_law_found", "_law_other"] ["_law_script"] (defScope s_law) := ⟨rfl, rfl, rfl, by decide +kernel, rfl, by decide +kernel, by decide +kernel⟩
theorem fn_law {f : Addr} {fd : FuncData} (F : Fun K "law" "law" s_law f fd) (T : Tx w K mg C_NOUGHT C_NoFraction C_NoWeights C_ONE C_TooFar) (c__law_drawn : Callee P w K mg base 2 "_law_drawn" ["_law_script", "_law_k"] (spDrawn K)) (c__law_is_fraction : Callee P w K mg base 2 "_law_is_fraction" ["_law_found"] (spIsFq K)) (c__law_measure_by : Callee P w K mg base 9 "_law_measure_by" ["_law_rows"] (spLap K 6)) (c__law_moments_by : Callee P w K mg base 4 "_law_moments_by" ["_law_levels", "_law_downs"] (spMoBy K)) (c__law_mul : Callee P w K mg base 3 "_law_mul" ["_law_a", "_law_b"] (spBin K (fun a b => a * b))) (c__law_product : Callee P w K mg base 4 "_law_product" ["_law_downs", "_law_n"] (spProd53 K)) (c__law_row_by : Callee P w K mg base 4 "_law_row_by" ["_law_levels", "_law_downs"] (spRowBy K)) (c__law_table_of : Callee P w K mg base 1 "_law_table_of" ["_law_numbers", "_law_size", "_law_shift"] (spTbl53 K)) (c__law_weights_by : Callee P w K mg base 4 "_law_weights_by" ["_law_script", "_law_first", "_law_k", "_law_way"] (spWs53 K)) (c_measure : Callee P w K mg base 3 "measure" ["table"] (spMeas K)) (c_moment_table : CalleeD P w K mg base 1 "moment_table" ["moments", "size", "shift"] [.int 0] (spTable K C_TooFar)) (c_moments : Callee P w K mg base 5 "moments" ["weights"] (spMoments K)) (c_weights_of : Callee P w K mg base 1 "weights_of" ["levels", "downs"] (spWof K C_NoWeights)) : FnOk P w K mg base (CXe P w) 10 f fd ["_law_script"] (spLaw K) := by
  refine F.okE sc_law (fun vs H Q E h => ?_) (fun cdv A outer s H vs Q E hr h => ?_)
  · obtain ⟨_, _, rfl, _⟩ := h
    rfl
  · obtain ⟨sa, ns, rfl, hs, hlen, hq⟩ := h
    refine ⟨_, (pss_cons (ps_set (i := 1) sc_law.nd rfl (Or.inl rfl) (pe_c c__law_drawn (hr.mono (by decide)) np (pa_cons (pv 0) (pa_cons pe_int pa_nil)))) (pss_cons (ps_set (i := 2) sc_law.nd rfl (Or.inl rfl) (pe_op op_mod (pv 1) pe_int)) (pss_cons (ps_set (i := 3) sc_law.nd rfl (Or.inl rfl) (pe_op op_fdivB (pv 1) pe_int)) (pss_cons (ps_if (pt_cmpR op_eq (pe_op op_mod (pe_op op_fdivB (pv 1) pe_int) pe_int) pe_int (nomark _)) (pss_cons (ps_set (i := 2) sc_law.nd rfl (Or.inl rfl) (pe_op op_add pe_int (pe_op op_mod (pe_op op_fdivB (pv 1) pe_int) pe_int))) (pss_one (ps_set (i := 3) sc_law.nd rfl (Or.inl rfl) (pe_op op_mul (pe_op op_fdivB (pv 3) pe_int) pe_int)))) pss_nil) (pss_cons (ps_asg (pe_c c__law_weights_by (hr.mono (by decide)) np (pa_cons (pv 0) (pa_cons pe_int (pa_cons (pv 2) (pa_cons (pv 3) pa_nil))))) (pg_tup rfl (pgs_cons (pg_name (i := 4) sc_law.nd rfl (Or.inl rfl)) (pgs_cons (pg_name (i := 5) sc_law.nd rfl (Or.inl rfl)) pgs_nil)))) (pss_cons (ps_set (i := 6) sc_law.nd rfl (Or.inl rfl) (pe_c c_moments (hr.mono (by decide)) np (pa_cons (pe_c c_weights_of (hr.mono (by decide)) np (pa_cons (pe_callTy call_list_of (by rfl) T.b_list (by decide +kernel) (pa_cons (pv 4) pa_nil)) (pa_cons (pe_callTy call_list_of (by rfl) T.b_list (by decide +kernel) (pa_cons (pv 5) pa_nil)) pa_nil))) pa_nil))) (pss_cons (ps_if (PW.pt (pw_or (pt_not (pt_val (pe_callB call_isi (by rfl) T.b_isinstance (by decide +kernel) (pa_cons (pv 6) (pa_cons (pe_bltn (v := .ty "list") (u := .type "list") rfl T.b_list (by decide +kernel) rfl) pa_nil))))) (pw_or1 (pt_cmpR (op_neD hr.units) (pv 6) (pe_c c__law_moments_by (hr.mono (by decide)) np (pa_cons (pv 4) (pa_cons (pv 5) pa_nil))) (nomark _))))) (pss_one (ps_ret pe_bl)) pss_nil) (pss_cons (ps_set (i := 7) sc_law.nd rfl (Or.inl rfl) (pe_c c__law_row_by (hr.mono (by decide)) np (pa_cons (pv 4) (pa_cons (pv 5) pa_nil)))) (pss_cons (ps_forR rfl PassesOwn.never T.b_range (pe_op op_add (pv 2) pe_int) (pg_name (i := 8) sc_law.nd rfl (Or.inl rfl)) (pss_cons (ps_set (i := 9) sc_law.nd rfl (Or.inl rfl) (pe_c c__law_product (hr.mono (by decide)) np (pa_cons (pv 5) (pa_cons (pv 8) pa_nil)))) (pss_cons (ps_set (i := 10) sc_law.nd rfl (Or.inl rfl) (pe_c c_measure (hr.mono (by decide)) np (pa_cons (pe_cD 0 c_moment_table (hr.mono (by decide)) np (pa_cons (pv 6) (pa_cons (pv 8) pa_nil))) pa_nil))) (pss_cons (ps_if (PW.pt (pw_or (pt_not (pt_val (pe_c c__law_is_fraction (hr.mono (by decide)) np (pa_cons (pv 10) pa_nil)))) (pw_or1 (pt_cmpR (op_neD hr.units) (pv 10) (pv 9) (nomark _))))) (pss_one (ps_ret pe_bl)) pss_nil) (pss_cons (ps_set (i := 11) sc_law.nd rfl (Or.inl rfl) (pe_c c__law_mul (hr.mono (by decide)) np (pa_cons (pv 9) (pa_cons (pe_ix ix_list (pe_ix ix_list (pv 7) (pv 8) (fun _ _ => rfl)) pe_int (fun _ _ => rfl)) pa_nil)))) (pss_cons (ps_if (pt_cmpR op_eq (pe_op op_mod (pv 8) pe_int) pe_int (nomark _)) (pss_one (ps_set (i := 11) sc_law.nd rfl (Or.inl rfl) (pe_tup (pa_cons (pe_un un_neg (pe_ix ix_fq (pv 11) pe_int (fun _ _ => rfl))) (pa_cons (pe_ix ix_fq (pv 11) pe_int (fun _ _ => rfl)) pa_nil))))) pss_nil) (pss_cons (ps_if (pt_cmpR (op_neD hr.units) (pe_c c_measure (hr.mono (by decide)) np (pa_cons (pe_cD 1 c_moment_table (hr.mono (by decide)) np (pa_cons (pv 6) (pa_cons (pv 8) (pa_cons pe_int pa_nil)))) pa_nil)) (pv 11) (nomark _)) (pss_one (ps_ret pe_bl)) pss_nil) (pss_one (ps_if (PW.pt (pw_and (pt_cmpR op_lt (pv 8) pe_int (nomark _)) (pw_and1 (pt_cmpR (op_neD hr.units) (pe_c c__law_measure_by (hr.mono (by decide)) np (pa_cons (pe_c c__law_table_of (hr.mono (by decide)) np (pa_cons (pv 6) (pa_cons (pv 8) (pa_cons pe_int pa_nil)))) pa_nil)) (pv 9) (nomark _))))) (pss_one (ps_ret pe_bl)) pss_nil))))))))) (pss_one (ps_ret pe_bl))))))))))), ?_⟩
    have dv : ∀ i j : Int, 0 < j → j ≤ 5000000 → CDivB i j := fun i j h1 h2 => ⟨by omega, Bd.mono (m := 64) (show (_ : Nat) < _ by omega) (by decide)⟩
    have cm : ∀ q : Int, 0 ≤ q → ∃ n : Nat, q = (n : Int) := fun q h => ⟨q.toNat, by omega⟩
    refine tSeq_step fun N hN => ?_
    walk_at "rd"
    refine ⟨sa, ns, 0, rfl, hs, by omega, by omega, fun c c0 c1 => hN _ _ ?_⟩
    clear hN N
    refine tSeq_step fun N hN => ?_
    walk_at "rd"
    refine hN _ _ ?_
    clear hN N
    refine tSeq_step fun N hN => ?_
    walk_at "rd"
    refine ⟨dv _ _ (by decide) (by decide), hN _ _ ?_⟩
    clear hN N
    refine tSeq_step fun N hN => ?_
    have fin : ∀ (k : Nat) (w : Int), k ≤ 7 → N [some (.ref sa), some (.int c), some (.int k), some (.int w), none, none, none, none, none, none, none, none] H := by
      intro k w hk
      refine hN _ _ ?_
      clear hN N
      refine tSeq_step fun N hN => ?_
      walk_at "rd"
      refine ⟨sa, ns, 1, w, k, rfl, hs, by omega, by omega, hk, fun P D1 D2 H1 x1 x2 L D s1 n1 n2 ne hP h1 h2 f1 f2 ws lD => ?_⟩
      refine ⟨P, rfl, _, SqT.of hP, rfl, _, _, rfl, _, _, rfl, rfl, hN _ _ ?_⟩
      clear hN N
      have wn := ws.n
      have wm := ws.m
      refine tSeq_step fun N hN => ?_
      walk_at "rd"
      refine ⟨x1, .inl (SqL.of h1), fun A nA => ⟨x2, .inl (SqL.of (same_upd nA _ _ h2)), fun B nB => ?_⟩⟩
      have uA := same_upd (o := .lst x1) nA
      have uB := same_upd (o := .lst x2) nB
      have sAB := uA.trans uB
      refine ⟨A, B, x1, x2, L, D, rfl, uB _ _ upd_same, upd_same, f1.same sAB, f2.same sAB, fun z => absurd ⟨wn, by omega⟩ z, fun _ _ wv H3 s3 hw => ⟨wv, L, D, rfl, hw, ws, fun MO H4 mo s4 nM hMO fMO => hN _ _ ?_⟩⟩
      clear hN N
      have v4 := (sAB.trans s3).trans s4
      replace s1 := s1.trans v4
      replace h1 := v4 _ _ h1
      replace f1 := f1.same v4
      replace h2 := v4 _ _ h2
      replace f2 := f2.same v4
      clear v4 s3 sAB uA uB hw nM hP
      refine tSeq_step fun N hN => ?_
      walk_at "rd"
      have dp : 1 ≤ (lstD (momL L D)).dep ∧ (lstD (momL L D)).dep ≤ 60 := by
        have z1 := frDs_dep (momL L D)
        simp only [lstD, Dt.dep]
        omega
      refine isi_ll hMO (.inr ⟨rfl, D1, D2, x1, x2, L, D, rfl, h1, h2, f1, f2, ws, fun MB H5 mb s5 nB hB fB => neD_same _ (rep_lst (s5 _ _ hMO) (fMO.same s5)) (rep_lst hB fB) dp.1 dp.2 (.inl ⟨rfl, hN _ _ ?_⟩)⟩)
      clear hN N hB fB nB dp
      refine tSeq_step fun N hN => ?_
      walk_at "rd"
      refine ⟨D1, D2, x1, x2, L, D, rfl, s5 _ _ h1, s5 _ _ h2, f1.same s5, f2.same s5, ws, fun A H6 s6 nA rA => hN _ _ ?_⟩
      clear hN N
      have v6 := s5.trans s6
      replace hMO := v6 _ _ hMO
      replace fMO := fMO.same v6
      replace h2 := v6 _ _ h2
      replace f2 := f2.same v6
      have lmo := fMO.len
      rw [momL_len] at lmo
      have gm : ∀ q, Mt.Gd 15 (Mt.cf (momL L D) q) := fun q => by
        by_cases z : q < 2 * D.length + 2
        · rw [momL_at z]
          exact Mt.gd_up (Mt.gd_sm (Mt.wg_cf ws.l) (Mt.wg_cf ws.d) q 0) (by omega)
        · rw [Mt.cf_ge (by rw [momL_len]; omega)]
          exact Mt.Gd.zero
      clear f1 h1 v6 s6 s5 nA
      refine tSeq_step fun N hN => ?_
      walk_at "rd"
      have ek : ((k : Int) + 2).toNat = k + 2 := by omega
      rw [ek]
      have dz : ∀ h, Sz 35 (Mt.cf D h) := fun h => lat_sz (m := 35) (Mt.wg_cf ws.d h) (by decide) (by decide) (by decide)
      have pz : ∀ i, Sz (35 * i + 1) (Mt.pr (Mt.cf D) 0 i) := fun i => by
        induction i with
        | zero => rw [Mt.pr]; exact ⟨by show (_ : Nat) < _; decide, by show (_ : Nat) < _; decide⟩
        | succ i ih => rw [Mt.pr]; exact (ih.mul (dz _)).mono (by omega)
      have fz : ∀ n, n ≤ 9 → Sz (330 * n + 1) (Mt.prF (fun i => Mt.pr (Mt.cf D) 0 i) n) := fun n hn => by
        induction n with
        | zero => rw [Mt.prF]; exact ⟨by show (_ : Nat) < _; decide, by show (_ : Nat) < _; decide⟩
        | succ n ih => rw [Mt.prF]; exact ((ih (by omega)).mul (pz n)).mono (by omega)
      obtain ⟨zs, hz, lz, rws⟩ := id rA
      refine ⟨by omega, by omega, fun n σ H' => ∃ (r8 r9 r10 r11 : Option V), σ = [some (.ref sa), some (.int c), some (.int k), some (.int w), some (.ref D1), some (.ref D2), some (.ref MO), some (.ref A), r8, r9, r10, r11] ∧ Same H6 H', ⟨none, none, none, none, rfl, Same.refl _⟩, ?_, ?_⟩
      · rintro n σ H7 hn ⟨r8, r9, r10, r11, rfl, s7⟩
        have hnD : n ≤ D.length + 1 := by omega
        have hb0 : n = 0 ∨ 2 * (n - 1) + 0 < (momL L D).length := by rw [momL_len]; omega
        have hb1 : n = 0 ∨ 2 * (n - 1) + 1 < (momL L D).length := by rw [momL_len]; omega
        obtain ⟨pn, yn, en, hpn, fn, _⟩ := rws n (by omega)
        obtain ⟨p0, e0, q0⟩ := fn.at (j := 0) (by rw [Mt.rp_len]; omega)
        refine tSeq_step fun N hN => ?_
        walk_at "rd"
        refine ⟨D2, x2, D, n, rfl, s7 _ _ h2, f2.same s7, ws.d, wm, hnD, fun pd H8 s8 qd => hN _ _ ?_⟩
        clear hN N
        have s78 := s7.trans s8
        refine tSeq_step fun N hN => ?_
        walk_at "rd"
        refine ⟨MO, mo, momL L D, n, 0, rfl, SqL.of (s78 _ _ hMO), fMO.same s78, by omega, by omega, by rw [momL_len]; omega, fun z => absurd z (by unfold bad; rw [momL_len]; omega), fun _ TD H9 tab => meas53 (tab_ftab tab hb0) (by omega) (fun i _ j _ => gm _) fun pf H10 s10 n10 h10 => hN _ _ ?_⟩
        clear hN N
        have s9 : Same H8 H9 := tab.1
        have eh : Mt.det n (fun i j => Mt.cf (momL L D) (i + j + 0)) = Mt.prF (fun i => Mt.pr (Mt.cf D) 0 i) n := hank hnD
        rw [eh] at h10
        have q10 : Fq K H10 pf (Mt.prF (fun i => Mt.pr (Mt.cf D) 0 i) n) := Fq.of h10
        have qd10 := qd.same (s9.trans s10)
        have sX := s78.trans (s9.trans s10)
        clear tab eh h10 n10 qd s8 s78
        refine tSeq_step fun N hN => ?_
        walk_at "rd"
        refine ⟨pf, _, rfl, q10, .inr ⟨rfl, fr_cmp (rep_fr q10) (rep_fr qd10) (.inl ⟨by simp, hN _ _ ?_⟩)⟩⟩
        clear hN N
        refine tSeq_step fun N hN => ?_
        walk_at "rd"
        refine ⟨zs, SqL.of (sX _ _ hz), _, atI_nat en, pn, rfl, yn, SqL.of (sX _ _ hpn), _, atI_nat e0, pd, p0, _, _, rfl, qd10, q0.same sX, (fz n (by omega)).mono (by omega), (Ln.sz (rp_ln ws (by omega)) 0).mono (by decide), fun po H11 s11 n11 h11 => hN _ _ ?_⟩
        clear hN N
        have q11 : Fq K H11 po (Mt.prF (fun i => Mt.pr (Mt.cf D) 0 i) n * Mt.cf (Mt.rp L D n) 0) := Fq.of h11
        refine tSeq_step fun N hN => ?_
        have next : ∀ pz H12, Same H11 H12 → Fq K H12 pz (Mt.sg n * (Mt.prF (fun i => Mt.pr (Mt.cf D) 0 i) n * Mt.cf (Mt.rp L D n) 0)) → N [some (.ref sa), some (.int c), some (.int k), some (.int w), some (.ref D1), some (.ref D2), some (.ref MO), some (.ref A), some (.int n), some (.ref pd), some (.ref pf), some (.ref pz)] H12 := by
          intro po H12 s12 q12
          refine hN _ _ ?_
          clear hN N
          have sY := sX.trans (s11.trans s12)
          have qdY := qd10.same (s11.trans s12)
          refine tSeq_step fun N hN => ?_
          walk_at "rd"
          refine ⟨MO, mo, momL L D, n, 1, rfl, SqL.of (sY _ _ hMO), fMO.same sY, by omega, by omega, by rw [momL_len]; omega, fun z => absurd z (by unfold bad; rw [momL_len]; omega), fun _ TD H13 tab => meas53 (tab_ftab tab hb1) (by omega) (fun i _ j _ => gm _) fun pg H14 s14 n14 h14 => ?_⟩
          have s13 : Same H12 H13 := tab.1
          rw [hank1 hnD] at h14
          refine fr_cmp (rep_fr (Fq.of h14)) (rep_fr (q12.same (s13.trans s14))) (.inl ⟨by simp, hN _ _ ?_⟩)
          clear hN N
          have sZ := sY.trans (s13.trans s14)
          have qdZ := qdY.same (s13.trans s14)
          walk_at "rd"
          split
          · rename_i h5
            have hl : ∀ i, 0 < (fun _ : Nat => Mt.B0 ^ 15) i ∧ (fun _ : Nat => Mt.B0 ^ 15) i ≤ 2 ^ 540 := fun _ => ⟨show 0 < Mt.B0 ^ 15 by decide +kernel, show Mt.B0 ^ 15 ≤ 2 ^ 540 by decide +kernel⟩
            refine ⟨MO, mo, momL L D, n, 0, rfl, SqL.of (sZ _ _ hMO), fMO.same sZ, by omega, hb0, by rw [momL_len]; omega, fun TD H15 s15 nTD tT => ⟨n, by omega, TD, _, fun _ => Mt.B0 ^ 15, Mt.W0 ^ 15 * Mt.B0 ^ 15, 540, rfl, tT.rows, by omega, fun i _ j _ => gm _, hl, by decide +kernel, by omega, fun pl H16 s16 q16 => ?_⟩⟩
            have eh : Mt.det n (fun i j => Mt.cf (momL L D) (i + j + 0)) = Mt.prF (fun i => Mt.pr (Mt.cf D) 0 i) n := hank hnD
            rw [eh] at q16
            exact fr_cmp (rep_fr q16) (rep_fr (qdZ.same (s15.trans s16))) (.inl ⟨by simp, sZ.trans (s15.trans s16)⟩)
          · exact sZ
        clear hN
        walk_at "rd"
        split
        · rename_i ho
          refine ⟨_, q11, _, q11, sz_le 2 (by decide), fun p7 n7 => ?_⟩
          have e : Mt.sg n = -1 := by unfold Mt.sg; rw [if_neg (by omega)]
          have e2 : HO.tup [V.int (-(Mt.prF (fun i => Mt.pr (Mt.cf D) 0 i) n * Mt.cf (Mt.rp L D n) 0).num), V.int ((Mt.prF (fun i => Mt.pr (Mt.cf D) 0 i) n * Mt.cf (Mt.rp L D n) 0).den : Int)] = frO (-(Mt.prF (fun i => Mt.pr (Mt.cf D) 0 i) n * Mt.cf (Mt.rp L D n) 0)) := by rw [frO, Rat.neg_num, Rat.neg_den]
          rw [e2]
          refine next p7 _ (same_upd n7) ?_
          have e3 : Mt.sg n * (Mt.prF (fun i => Mt.pr (Mt.cf D) 0 i) n * Mt.cf (Mt.rp L D n) 0) = -(Mt.prF (fun i => Mt.pr (Mt.cf D) 0 i) n * Mt.cf (Mt.rp L D n) 0) := by rw [e]; grind
          rw [e3]
          exact Fq.of upd_same
        · rename_i ho
          refine next po H11 (Same.refl _) ?_
          have e : Mt.sg n = 1 := by unfold Mt.sg; rw [if_pos (by omega)]
          rw [e, Rat.one_mul]
          exact q11
      · rintro σ H7 ⟨r8, r9, r10, r11, rfl, s7⟩
        refine hN _ _ ?_
        clear hN N
        walk_at "rd"
        exact hq _
    clear hN
    walk_at "rd"
    refine ⟨dv _ _ (by decide) (by decide), ?_⟩
    split
    · refine ⟨dv _ _ (by decide) (by decide), dv _ _ (by decide) (by decide), .inr ⟨by decide, by decide⟩, ?_⟩
      obtain ⟨k, ek⟩ := cm (5 + c.fdiv 240 % 3) (by omega)
      rw [ek]
      exact fin k _ (by omega)
    · obtain ⟨k, ek⟩ := cm (c % 5) (by omega)
      rw [ek]
      exact fin k _ (by omega)
end
theorem all_mk {l : PySem.W.OpenLaw} {w : World} {K : PySem.W.Frag} {h : Heap} {mg : Str → Option Value} {fa : Addr} {f_is_whole : Addr} {od_is_whole an_is_whole : Option Addr} {sl_is_whole : Array (Option Value)} {oc_is_whole kV_is_whole dc_is_whole pm_is_whole cd_is_whole ct_is_whole : Value} {f_shared_part : Addr} {od_shared_part an_shared_part : Option Addr} {sl_shared_part : Array (Option Value)} {oc_shared_part kV_shared_part dc_shared_part pm_shared_part cd_shared_part ct_shared_part : Value} {f_fraction : Addr} {od_fraction an_fraction : Option Addr} {sl_fraction : Array (Option Value)} {oc_fraction kV_fraction dc_fraction pm_fraction cd_fraction ct_fraction : Value} {f_plus : Addr} {od_plus an_plus : Option Addr} {sl_plus : Array (Option Value)} {oc_plus kV_plus dc_plus pm_plus cd_plus ct_plus : Value} {f_times : Addr} {od_times an_times : Option Addr} {sl_times : Array (Option Value)} {oc_times kV_times dc_times pm_times cd_times ct_times : Value} {f_moment_table : Addr} {od_moment_table an_moment_table : Option Addr} {sl_moment_table : Array (Option Value)} {oc_moment_table kV_moment_table dc_moment_table pm_moment_table cd_moment_table ct_moment_table : Value} {dV_moment_table : Value} {f_shared_bottom : Addr} {od_shared_bottom an_shared_bottom : Option Addr} {sl_shared_bottom : Array (Option Value)} {oc_shared_bottom kV_shared_bottom dc_shared_bottom pm_shared_bottom cd_shared_bottom ct_shared_bottom : Value} {f_folded : Addr} {od_folded an_folded : Option Addr} {sl_folded : Array (Option Value)} {oc_folded kV_folded dc_folded pm_folded cd_folded ct_folded : Value} {f_whole_measure : Addr} {od_whole_measure an_whole_measure : Option Addr} {sl_whole_measure : Array (Option Value)} {oc_whole_measure kV_whole_measure dc_whole_measure pm_whole_measure cd_whole_measure ct_whole_measure : Value} {f_measure : Addr} {od_measure an_measure : Option Addr} {sl_measure : Array (Option Value)} {oc_measure kV_measure dc_measure pm_measure cd_measure ct_measure : Value} {f_weights_of : Addr} {od_weights_of an_weights_of : Option Addr} {sl_weights_of : Array (Option Value)} {oc_weights_of kV_weights_of dc_weights_of pm_weights_of cd_weights_of ct_weights_of : Value} {f_height_of : Addr} {od_height_of an_height_of : Option Addr} {sl_height_of : Array (Option Value)} {oc_height_of kV_height_of dc_height_of pm_height_of cd_height_of ct_height_of : Value} {f_check_reach : Addr} {od_check_reach an_check_reach : Option Addr} {sl_check_reach : Array (Option Value)} {oc_check_reach kV_check_reach dc_check_reach pm_check_reach cd_check_reach ct_check_reach : Value} {f_one_step_on : Addr} {od_one_step_on an_one_step_on : Option Addr} {sl_one_step_on : Array (Option Value)} {oc_one_step_on kV_one_step_on dc_one_step_on pm_one_step_on cd_one_step_on ct_one_step_on : Value} {f_sum_stepped : Addr} {od_sum_stepped an_sum_stepped : Option Addr} {sl_sum_stepped : Array (Option Value)} {oc_sum_stepped kV_sum_stepped dc_sum_stepped pm_sum_stepped cd_sum_stepped ct_sum_stepped : Value} {dV_sum_stepped : Value} {f_moments : Addr} {od_moments an_moments : Option Addr} {sl_moments : Array (Option Value)} {oc_moments kV_moments dc_moments pm_moments cd_moments ct_moments : Value} {f__law_cell_at : Addr} {od__law_cell_at an__law_cell_at : Option Addr} {sl__law_cell_at : Array (Option Value)} {oc__law_cell_at kV__law_cell_at dc__law_cell_at pm__law_cell_at cd__law_cell_at ct__law_cell_at : Value} {f__law_stir : Addr} {od__law_stir an__law_stir : Option Addr} {sl__law_stir : Array (Option Value)} {oc__law_stir kV__law_stir dc__law_stir pm__law_stir cd__law_stir ct__law_stir : Value} {f__law_drawn : Addr} {od__law_drawn an__law_drawn : Option Addr} {sl__law_drawn : Array (Option Value)} {oc__law_drawn kV__law_drawn dc__law_drawn pm__law_drawn cd__law_drawn ct__law_drawn : Value} {f__law_whole : Addr} {od__law_whole an__law_whole : Option Addr} {sl__law_whole : Array (Option Value)} {oc__law_whole kV__law_whole dc__law_whole pm__law_whole cd__law_whole ct__law_whole : Value} {f__law_divisor : Addr} {od__law_divisor an__law_divisor : Option Addr} {sl__law_divisor : Array (Option Value)} {oc__law_divisor kV__law_divisor dc__law_divisor pm__law_divisor cd__law_divisor ct__law_divisor : Value} {f__law_low : Addr} {od__law_low an__law_low : Option Addr} {sl__law_low : Array (Option Value)} {oc__law_low kV__law_low dc__law_low pm__law_low cd__law_low ct__law_low : Value} {f__law_add : Addr} {od__law_add an__law_add : Option Addr} {sl__law_add : Array (Option Value)} {oc__law_add kV__law_add dc__law_add pm__law_add cd__law_add ct__law_add : Value} {f__law_take : Addr} {od__law_take an__law_take : Option Addr} {sl__law_take : Array (Option Value)} {oc__law_take kV__law_take dc__law_take pm__law_take cd__law_take ct__law_take : Value} {f__law_mul : Addr} {od__law_mul an__law_mul : Option Addr} {sl__law_mul : Array (Option Value)} {oc__law_mul kV__law_mul dc__law_mul pm__law_mul cd__law_mul ct__law_mul : Value} {f__law_is_fraction : Addr} {od__law_is_fraction an__law_is_fraction : Option Addr} {sl__law_is_fraction : Array (Option Value)} {oc__law_is_fraction kV__law_is_fraction dc__law_is_fraction pm__law_is_fraction cd__law_is_fraction ct__law_is_fraction : Value} {f__law_weight_by : Addr} {od__law_weight_by an__law_weight_by : Option Addr} {sl__law_weight_by : Array (Option Value)} {oc__law_weight_by kV__law_weight_by dc__law_weight_by pm__law_weight_by cd__law_weight_by ct__law_weight_by : Value} {f__law_weights_by : Addr} {od__law_weights_by an__law_weights_by : Option Addr} {sl__law_weights_by : Array (Option Value)} {oc__law_weights_by kV__law_weights_by dc__law_weights_by pm__law_weights_by cd__law_weights_by ct__law_weights_by : Value} {f__law_moments_by : Addr} {od__law_moments_by an__law_moments_by : Option Addr} {sl__law_moments_by : Array (Option Value)} {oc__law_moments_by kV__law_moments_by dc__law_moments_by pm__law_moments_by cd__law_moments_by ct__law_moments_by : Value} {f__law_measure_by : Addr} {od__law_measure_by an__law_measure_by : Option Addr} {sl__law_measure_by : Array (Option Value)} {oc__law_measure_by kV__law_measure_by dc__law_measure_by pm__law_measure_by cd__law_measure_by ct__law_measure_by : Value} {f__law_row_by : Addr} {od__law_row_by an__law_row_by : Option Addr} {sl__law_row_by : Array (Option Value)} {oc__law_row_by kV__law_row_by dc__law_row_by pm__law_row_by cd__law_row_by ct__law_row_by : Value} {f__law_table_of : Addr} {od__law_table_of an__law_table_of : Option Addr} {sl__law_table_of : Array (Option Value)} {oc__law_table_of kV__law_table_of dc__law_table_of pm__law_table_of cd__law_table_of ct__law_table_of : Value} {f__law_product : Addr} {od__law_product an__law_product : Option Addr} {sl__law_product : Array (Option Value)} {oc__law_product kV__law_product dc__law_product pm__law_product cd__law_product ct__law_product : Value} {f_law : Addr} {od_law an_law : Option Addr} {sl_law : Array (Option Value)} {oc_law kV_law dc_law pm_law cd_law ct_law : Value} {C_NOUGHT : Addr} {C_NoFraction : Addr} {C_NoWeights : Addr} {C_ONE : Addr} {C_TooFar : Addr} {tk_MOST_LEVELS : Tok} (X : K.In h) (G : h.Ns mainGlobals mg) (hfa : mg "law" = some (.ref fa))
    (a_is_whole : PySem.W.nsIn K mainGlobals "is_whole" = some (some (.ref f_is_whole)))
    (l_is_whole : K.lookup f_is_whole = some ⟨oc_is_whole, od_is_whole, .func (PySem.W.fnOf "is_whole" "is_whole" (defArgs s_is_whole) (defBody s_is_whole) (defScope s_is_whole) .none kV_is_whole dc_is_whole pm_is_whole an_is_whole cd_is_whole ct_is_whole), sl_is_whole⟩)
    (e_is_whole : PySem.W.codeIn K cd_is_whole "is_whole" = true)
    (k_is_whole : PySem.W.keepIn K (.ref f_is_whole) = true)
    (a_shared_part : PySem.W.nsIn K mainGlobals "shared_part" = some (some (.ref f_shared_part)))
    (l_shared_part : K.lookup f_shared_part = some ⟨oc_shared_part, od_shared_part, .func (PySem.W.fnOf "shared_part" "shared_part" (defArgs s_shared_part) (defBody s_shared_part) (defScope s_shared_part) .none kV_shared_part dc_shared_part pm_shared_part an_shared_part cd_shared_part ct_shared_part), sl_shared_part⟩)
    (e_shared_part : PySem.W.codeIn K cd_shared_part "shared_part" = true)
    (k_shared_part : PySem.W.keepIn K (.ref f_shared_part) = true)
    (a_fraction : PySem.W.nsIn K mainGlobals "fraction" = some (some (.ref f_fraction)))
    (l_fraction : K.lookup f_fraction = some ⟨oc_fraction, od_fraction, .func (PySem.W.fnOf "fraction" "fraction" (defArgs s_fraction) (defBody s_fraction) (defScope s_fraction) .none kV_fraction dc_fraction pm_fraction an_fraction cd_fraction ct_fraction), sl_fraction⟩)
    (e_fraction : PySem.W.codeIn K cd_fraction "fraction" = true)
    (k_fraction : PySem.W.keepIn K (.ref f_fraction) = true)
    (a_plus : PySem.W.nsIn K mainGlobals "plus" = some (some (.ref f_plus)))
    (l_plus : K.lookup f_plus = some ⟨oc_plus, od_plus, .func (PySem.W.fnOf "plus" "plus" (defArgs s_plus) (defBody s_plus) (defScope s_plus) .none kV_plus dc_plus pm_plus an_plus cd_plus ct_plus), sl_plus⟩)
    (e_plus : PySem.W.codeIn K cd_plus "plus" = true)
    (k_plus : PySem.W.keepIn K (.ref f_plus) = true)
    (a_times : PySem.W.nsIn K mainGlobals "times" = some (some (.ref f_times)))
    (l_times : K.lookup f_times = some ⟨oc_times, od_times, .func (PySem.W.fnOf "times" "times" (defArgs s_times) (defBody s_times) (defScope s_times) .none kV_times dc_times pm_times an_times cd_times ct_times), sl_times⟩)
    (e_times : PySem.W.codeIn K cd_times "times" = true)
    (k_times : PySem.W.keepIn K (.ref f_times) = true)
    (a_moment_table : PySem.W.nsIn K mainGlobals "moment_table" = some (some (.ref f_moment_table)))
    (l_moment_table : K.lookup f_moment_table = some ⟨oc_moment_table, od_moment_table, .func (PySem.W.fnOf "moment_table" "moment_table" (defArgs s_moment_table) (defBody s_moment_table) (defScope s_moment_table) dV_moment_table kV_moment_table dc_moment_table pm_moment_table an_moment_table cd_moment_table ct_moment_table), sl_moment_table⟩)
    (e_moment_table : PySem.W.codeIn K cd_moment_table "moment_table" = true)
    (k_moment_table : PySem.W.keepIn K (.ref f_moment_table) = true)
    (d_moment_table : dflIn K dV_moment_table [.int 0] = true)
    (a_shared_bottom : PySem.W.nsIn K mainGlobals "shared_bottom" = some (some (.ref f_shared_bottom)))
    (l_shared_bottom : K.lookup f_shared_bottom = some ⟨oc_shared_bottom, od_shared_bottom, .func (PySem.W.fnOf "shared_bottom" "shared_bottom" (defArgs s_shared_bottom) (defBody s_shared_bottom) (defScope s_shared_bottom) .none kV_shared_bottom dc_shared_bottom pm_shared_bottom an_shared_bottom cd_shared_bottom ct_shared_bottom), sl_shared_bottom⟩)
    (e_shared_bottom : PySem.W.codeIn K cd_shared_bottom "shared_bottom" = true)
    (k_shared_bottom : PySem.W.keepIn K (.ref f_shared_bottom) = true)
    (a_folded : PySem.W.nsIn K mainGlobals "folded" = some (some (.ref f_folded)))
    (l_folded : K.lookup f_folded = some ⟨oc_folded, od_folded, .func (PySem.W.fnOf "folded" "folded" (defArgs s_folded) (defBody s_folded) (defScope s_folded) .none kV_folded dc_folded pm_folded an_folded cd_folded ct_folded), sl_folded⟩)
    (e_folded : PySem.W.codeIn K cd_folded "folded" = true)
    (k_folded : PySem.W.keepIn K (.ref f_folded) = true)
    (a_whole_measure : PySem.W.nsIn K mainGlobals "whole_measure" = some (some (.ref f_whole_measure)))
    (l_whole_measure : K.lookup f_whole_measure = some ⟨oc_whole_measure, od_whole_measure, .func (PySem.W.fnOf "whole_measure" "whole_measure" (defArgs s_whole_measure) (defBody s_whole_measure) (defScope s_whole_measure) .none kV_whole_measure dc_whole_measure pm_whole_measure an_whole_measure cd_whole_measure ct_whole_measure), sl_whole_measure⟩)
    (e_whole_measure : PySem.W.codeIn K cd_whole_measure "whole_measure" = true)
    (k_whole_measure : PySem.W.keepIn K (.ref f_whole_measure) = true)
    (a_measure : PySem.W.nsIn K mainGlobals "measure" = some (some (.ref f_measure)))
    (l_measure : K.lookup f_measure = some ⟨oc_measure, od_measure, .func (PySem.W.fnOf "measure" "measure" (defArgs s_measure) (defBody s_measure) (defScope s_measure) .none kV_measure dc_measure pm_measure an_measure cd_measure ct_measure), sl_measure⟩)
    (e_measure : PySem.W.codeIn K cd_measure "measure" = true)
    (k_measure : PySem.W.keepIn K (.ref f_measure) = true)
    (a_weights_of : PySem.W.nsIn K mainGlobals "weights_of" = some (some (.ref f_weights_of)))
    (l_weights_of : K.lookup f_weights_of = some ⟨oc_weights_of, od_weights_of, .func (PySem.W.fnOf "weights_of" "weights_of" (defArgs s_weights_of) (defBody s_weights_of) (defScope s_weights_of) .none kV_weights_of dc_weights_of pm_weights_of an_weights_of cd_weights_of ct_weights_of), sl_weights_of⟩)
    (e_weights_of : PySem.W.codeIn K cd_weights_of "weights_of" = true)
    (k_weights_of : PySem.W.keepIn K (.ref f_weights_of) = true)
    (a_height_of : PySem.W.nsIn K mainGlobals "height_of" = some (some (.ref f_height_of)))
    (l_height_of : K.lookup f_height_of = some ⟨oc_height_of, od_height_of, .func (PySem.W.fnOf "height_of" "height_of" (defArgs s_height_of) (defBody s_height_of) (defScope s_height_of) .none kV_height_of dc_height_of pm_height_of an_height_of cd_height_of ct_height_of), sl_height_of⟩)
    (e_height_of : PySem.W.codeIn K cd_height_of "height_of" = true)
    (k_height_of : PySem.W.keepIn K (.ref f_height_of) = true)
    (a_check_reach : PySem.W.nsIn K mainGlobals "check_reach" = some (some (.ref f_check_reach)))
    (l_check_reach : K.lookup f_check_reach = some ⟨oc_check_reach, od_check_reach, .func (PySem.W.fnOf "check_reach" "check_reach" (defArgs s_check_reach) (defBody s_check_reach) (defScope s_check_reach) .none kV_check_reach dc_check_reach pm_check_reach an_check_reach cd_check_reach ct_check_reach), sl_check_reach⟩)
    (e_check_reach : PySem.W.codeIn K cd_check_reach "check_reach" = true)
    (k_check_reach : PySem.W.keepIn K (.ref f_check_reach) = true)
    (a_one_step_on : PySem.W.nsIn K mainGlobals "one_step_on" = some (some (.ref f_one_step_on)))
    (l_one_step_on : K.lookup f_one_step_on = some ⟨oc_one_step_on, od_one_step_on, .func (PySem.W.fnOf "one_step_on" "one_step_on" (defArgs s_one_step_on) (defBody s_one_step_on) (defScope s_one_step_on) .none kV_one_step_on dc_one_step_on pm_one_step_on an_one_step_on cd_one_step_on ct_one_step_on), sl_one_step_on⟩)
    (e_one_step_on : PySem.W.codeIn K cd_one_step_on "one_step_on" = true)
    (k_one_step_on : PySem.W.keepIn K (.ref f_one_step_on) = true)
    (a_sum_stepped : PySem.W.nsIn K mainGlobals "sum_stepped" = some (some (.ref f_sum_stepped)))
    (l_sum_stepped : K.lookup f_sum_stepped = some ⟨oc_sum_stepped, od_sum_stepped, .func (PySem.W.fnOf "sum_stepped" "sum_stepped" (defArgs s_sum_stepped) (defBody s_sum_stepped) (defScope s_sum_stepped) dV_sum_stepped kV_sum_stepped dc_sum_stepped pm_sum_stepped an_sum_stepped cd_sum_stepped ct_sum_stepped), sl_sum_stepped⟩)
    (e_sum_stepped : PySem.W.codeIn K cd_sum_stepped "sum_stepped" = true)
    (k_sum_stepped : PySem.W.keepIn K (.ref f_sum_stepped) = true)
    (d_sum_stepped : dflIn K dV_sum_stepped [.int 0, .int 0, .non] = true)
    (a_moments : PySem.W.nsIn K mainGlobals "moments" = some (some (.ref f_moments)))
    (l_moments : K.lookup f_moments = some ⟨oc_moments, od_moments, .func (PySem.W.fnOf "moments" "moments" (defArgs s_moments) (defBody s_moments) (defScope s_moments) .none kV_moments dc_moments pm_moments an_moments cd_moments ct_moments), sl_moments⟩)
    (e_moments : PySem.W.codeIn K cd_moments "moments" = true)
    (k_moments : PySem.W.keepIn K (.ref f_moments) = true)
    (a__law_cell_at : PySem.W.nsIn K mainGlobals "_law_cell_at" = some (some (.ref f__law_cell_at)))
    (l__law_cell_at : K.lookup f__law_cell_at = some ⟨oc__law_cell_at, od__law_cell_at, .func (PySem.W.fnOf "_law_cell_at" "_law_cell_at" (defArgs s__law_cell_at) (defBody s__law_cell_at) (defScope s__law_cell_at) .none kV__law_cell_at dc__law_cell_at pm__law_cell_at an__law_cell_at cd__law_cell_at ct__law_cell_at), sl__law_cell_at⟩)
    (e__law_cell_at : PySem.W.codeIn K cd__law_cell_at "_law_cell_at" = true)
    (k__law_cell_at : PySem.W.keepIn K (.ref f__law_cell_at) = true)
    (a__law_stir : PySem.W.nsIn K mainGlobals "_law_stir" = some (some (.ref f__law_stir)))
    (l__law_stir : K.lookup f__law_stir = some ⟨oc__law_stir, od__law_stir, .func (PySem.W.fnOf "_law_stir" "_law_stir" (defArgs s__law_stir) (defBody s__law_stir) (defScope s__law_stir) .none kV__law_stir dc__law_stir pm__law_stir an__law_stir cd__law_stir ct__law_stir), sl__law_stir⟩)
    (e__law_stir : PySem.W.codeIn K cd__law_stir "_law_stir" = true)
    (k__law_stir : PySem.W.keepIn K (.ref f__law_stir) = true)
    (a__law_drawn : PySem.W.nsIn K mainGlobals "_law_drawn" = some (some (.ref f__law_drawn)))
    (l__law_drawn : K.lookup f__law_drawn = some ⟨oc__law_drawn, od__law_drawn, .func (PySem.W.fnOf "_law_drawn" "_law_drawn" (defArgs s__law_drawn) (defBody s__law_drawn) (defScope s__law_drawn) .none kV__law_drawn dc__law_drawn pm__law_drawn an__law_drawn cd__law_drawn ct__law_drawn), sl__law_drawn⟩)
    (e__law_drawn : PySem.W.codeIn K cd__law_drawn "_law_drawn" = true)
    (k__law_drawn : PySem.W.keepIn K (.ref f__law_drawn) = true)
    (a__law_whole : PySem.W.nsIn K mainGlobals "_law_whole" = some (some (.ref f__law_whole)))
    (l__law_whole : K.lookup f__law_whole = some ⟨oc__law_whole, od__law_whole, .func (PySem.W.fnOf "_law_whole" "_law_whole" (defArgs s__law_whole) (defBody s__law_whole) (defScope s__law_whole) .none kV__law_whole dc__law_whole pm__law_whole an__law_whole cd__law_whole ct__law_whole), sl__law_whole⟩)
    (e__law_whole : PySem.W.codeIn K cd__law_whole "_law_whole" = true)
    (k__law_whole : PySem.W.keepIn K (.ref f__law_whole) = true)
    (a__law_divisor : PySem.W.nsIn K mainGlobals "_law_divisor" = some (some (.ref f__law_divisor)))
    (l__law_divisor : K.lookup f__law_divisor = some ⟨oc__law_divisor, od__law_divisor, .func (PySem.W.fnOf "_law_divisor" "_law_divisor" (defArgs s__law_divisor) (defBody s__law_divisor) (defScope s__law_divisor) .none kV__law_divisor dc__law_divisor pm__law_divisor an__law_divisor cd__law_divisor ct__law_divisor), sl__law_divisor⟩)
    (e__law_divisor : PySem.W.codeIn K cd__law_divisor "_law_divisor" = true)
    (k__law_divisor : PySem.W.keepIn K (.ref f__law_divisor) = true)
    (a__law_low : PySem.W.nsIn K mainGlobals "_law_low" = some (some (.ref f__law_low)))
    (l__law_low : K.lookup f__law_low = some ⟨oc__law_low, od__law_low, .func (PySem.W.fnOf "_law_low" "_law_low" (defArgs s__law_low) (defBody s__law_low) (defScope s__law_low) .none kV__law_low dc__law_low pm__law_low an__law_low cd__law_low ct__law_low), sl__law_low⟩)
    (e__law_low : PySem.W.codeIn K cd__law_low "_law_low" = true)
    (k__law_low : PySem.W.keepIn K (.ref f__law_low) = true)
    (a__law_add : PySem.W.nsIn K mainGlobals "_law_add" = some (some (.ref f__law_add)))
    (l__law_add : K.lookup f__law_add = some ⟨oc__law_add, od__law_add, .func (PySem.W.fnOf "_law_add" "_law_add" (defArgs s__law_add) (defBody s__law_add) (defScope s__law_add) .none kV__law_add dc__law_add pm__law_add an__law_add cd__law_add ct__law_add), sl__law_add⟩)
    (e__law_add : PySem.W.codeIn K cd__law_add "_law_add" = true)
    (k__law_add : PySem.W.keepIn K (.ref f__law_add) = true)
    (a__law_take : PySem.W.nsIn K mainGlobals "_law_take" = some (some (.ref f__law_take)))
    (l__law_take : K.lookup f__law_take = some ⟨oc__law_take, od__law_take, .func (PySem.W.fnOf "_law_take" "_law_take" (defArgs s__law_take) (defBody s__law_take) (defScope s__law_take) .none kV__law_take dc__law_take pm__law_take an__law_take cd__law_take ct__law_take), sl__law_take⟩)
    (e__law_take : PySem.W.codeIn K cd__law_take "_law_take" = true)
    (k__law_take : PySem.W.keepIn K (.ref f__law_take) = true)
    (a__law_mul : PySem.W.nsIn K mainGlobals "_law_mul" = some (some (.ref f__law_mul)))
    (l__law_mul : K.lookup f__law_mul = some ⟨oc__law_mul, od__law_mul, .func (PySem.W.fnOf "_law_mul" "_law_mul" (defArgs s__law_mul) (defBody s__law_mul) (defScope s__law_mul) .none kV__law_mul dc__law_mul pm__law_mul an__law_mul cd__law_mul ct__law_mul), sl__law_mul⟩)
    (e__law_mul : PySem.W.codeIn K cd__law_mul "_law_mul" = true)
    (k__law_mul : PySem.W.keepIn K (.ref f__law_mul) = true)
    (a__law_is_fraction : PySem.W.nsIn K mainGlobals "_law_is_fraction" = some (some (.ref f__law_is_fraction)))
    (l__law_is_fraction : K.lookup f__law_is_fraction = some ⟨oc__law_is_fraction, od__law_is_fraction, .func (PySem.W.fnOf "_law_is_fraction" "_law_is_fraction" (defArgs s__law_is_fraction) (defBody s__law_is_fraction) (defScope s__law_is_fraction) .none kV__law_is_fraction dc__law_is_fraction pm__law_is_fraction an__law_is_fraction cd__law_is_fraction ct__law_is_fraction), sl__law_is_fraction⟩)
    (e__law_is_fraction : PySem.W.codeIn K cd__law_is_fraction "_law_is_fraction" = true)
    (k__law_is_fraction : PySem.W.keepIn K (.ref f__law_is_fraction) = true)
    (a__law_weight_by : PySem.W.nsIn K mainGlobals "_law_weight_by" = some (some (.ref f__law_weight_by)))
    (l__law_weight_by : K.lookup f__law_weight_by = some ⟨oc__law_weight_by, od__law_weight_by, .func (PySem.W.fnOf "_law_weight_by" "_law_weight_by" (defArgs s__law_weight_by) (defBody s__law_weight_by) (defScope s__law_weight_by) .none kV__law_weight_by dc__law_weight_by pm__law_weight_by an__law_weight_by cd__law_weight_by ct__law_weight_by), sl__law_weight_by⟩)
    (e__law_weight_by : PySem.W.codeIn K cd__law_weight_by "_law_weight_by" = true)
    (k__law_weight_by : PySem.W.keepIn K (.ref f__law_weight_by) = true)
    (a__law_weights_by : PySem.W.nsIn K mainGlobals "_law_weights_by" = some (some (.ref f__law_weights_by)))
    (l__law_weights_by : K.lookup f__law_weights_by = some ⟨oc__law_weights_by, od__law_weights_by, .func (PySem.W.fnOf "_law_weights_by" "_law_weights_by" (defArgs s__law_weights_by) (defBody s__law_weights_by) (defScope s__law_weights_by) .none kV__law_weights_by dc__law_weights_by pm__law_weights_by an__law_weights_by cd__law_weights_by ct__law_weights_by), sl__law_weights_by⟩)
    (e__law_weights_by : PySem.W.codeIn K cd__law_weights_by "_law_weights_by" = true)
    (k__law_weights_by : PySem.W.keepIn K (.ref f__law_weights_by) = true)
    (a__law_moments_by : PySem.W.nsIn K mainGlobals "_law_moments_by" = some (some (.ref f__law_moments_by)))
    (l__law_moments_by : K.lookup f__law_moments_by = some ⟨oc__law_moments_by, od__law_moments_by, .func (PySem.W.fnOf "_law_moments_by" "_law_moments_by" (defArgs s__law_moments_by) (defBody s__law_moments_by) (defScope s__law_moments_by) .none kV__law_moments_by dc__law_moments_by pm__law_moments_by an__law_moments_by cd__law_moments_by ct__law_moments_by), sl__law_moments_by⟩)
    (e__law_moments_by : PySem.W.codeIn K cd__law_moments_by "_law_moments_by" = true)
    (k__law_moments_by : PySem.W.keepIn K (.ref f__law_moments_by) = true)
    (a__law_measure_by : PySem.W.nsIn K mainGlobals "_law_measure_by" = some (some (.ref f__law_measure_by)))
    (l__law_measure_by : K.lookup f__law_measure_by = some ⟨oc__law_measure_by, od__law_measure_by, .func (PySem.W.fnOf "_law_measure_by" "_law_measure_by" (defArgs s__law_measure_by) (defBody s__law_measure_by) (defScope s__law_measure_by) .none kV__law_measure_by dc__law_measure_by pm__law_measure_by an__law_measure_by cd__law_measure_by ct__law_measure_by), sl__law_measure_by⟩)
    (e__law_measure_by : PySem.W.codeIn K cd__law_measure_by "_law_measure_by" = true)
    (k__law_measure_by : PySem.W.keepIn K (.ref f__law_measure_by) = true)
    (a__law_row_by : PySem.W.nsIn K mainGlobals "_law_row_by" = some (some (.ref f__law_row_by)))
    (l__law_row_by : K.lookup f__law_row_by = some ⟨oc__law_row_by, od__law_row_by, .func (PySem.W.fnOf "_law_row_by" "_law_row_by" (defArgs s__law_row_by) (defBody s__law_row_by) (defScope s__law_row_by) .none kV__law_row_by dc__law_row_by pm__law_row_by an__law_row_by cd__law_row_by ct__law_row_by), sl__law_row_by⟩)
    (e__law_row_by : PySem.W.codeIn K cd__law_row_by "_law_row_by" = true)
    (k__law_row_by : PySem.W.keepIn K (.ref f__law_row_by) = true)
    (a__law_table_of : PySem.W.nsIn K mainGlobals "_law_table_of" = some (some (.ref f__law_table_of)))
    (l__law_table_of : K.lookup f__law_table_of = some ⟨oc__law_table_of, od__law_table_of, .func (PySem.W.fnOf "_law_table_of" "_law_table_of" (defArgs s__law_table_of) (defBody s__law_table_of) (defScope s__law_table_of) .none kV__law_table_of dc__law_table_of pm__law_table_of an__law_table_of cd__law_table_of ct__law_table_of), sl__law_table_of⟩)
    (e__law_table_of : PySem.W.codeIn K cd__law_table_of "_law_table_of" = true)
    (k__law_table_of : PySem.W.keepIn K (.ref f__law_table_of) = true)
    (a__law_product : PySem.W.nsIn K mainGlobals "_law_product" = some (some (.ref f__law_product)))
    (l__law_product : K.lookup f__law_product = some ⟨oc__law_product, od__law_product, .func (PySem.W.fnOf "_law_product" "_law_product" (defArgs s__law_product) (defBody s__law_product) (defScope s__law_product) .none kV__law_product dc__law_product pm__law_product an__law_product cd__law_product ct__law_product), sl__law_product⟩)
    (e__law_product : PySem.W.codeIn K cd__law_product "_law_product" = true)
    (k__law_product : PySem.W.keepIn K (.ref f__law_product) = true)
    (a_law : PySem.W.nsIn K mainGlobals "law" = some (some (.ref f_law)))
    (l_law : K.lookup f_law = some ⟨oc_law, od_law, .func (PySem.W.fnOf "law" "law" (defArgs s_law) (defBody s_law) (defScope s_law) .none kV_law dc_law pm_law an_law cd_law ct_law), sl_law⟩)
    (e_law : PySem.W.codeIn K cd_law "law" = true)
    (k_law : PySem.W.keepIn K (.ref f_law) = true)
    (a_NOUGHT : PySem.W.nsIn K mainGlobals "NOUGHT" = some (some (.ref C_NOUGHT)))
    (a_NoFraction : PySem.W.nsIn K mainGlobals "NoFraction" = some (some (.ref C_NoFraction)))
    (a_NoWeights : PySem.W.nsIn K mainGlobals "NoWeights" = some (some (.ref C_NoWeights)))
    (a_ONE : PySem.W.nsIn K mainGlobals "ONE" = some (some (.ref C_ONE)))
    (a_TooFar : PySem.W.nsIn K mainGlobals "TooFar" = some (some (.ref C_TooFar)))
    (n_abs : PySem.W.nsIn K mainGlobals "abs" = some none)
    (n_bool : PySem.W.nsIn K mainGlobals "bool" = some none)
    (n_int : PySem.W.nsIn K mainGlobals "int" = some none)
    (n_isinstance : PySem.W.nsIn K mainGlobals "isinstance" = some none)
    (n_len : PySem.W.nsIn K mainGlobals "len" = some none)
    (n_list : PySem.W.nsIn K mainGlobals "list" = some none)
    (n_min : PySem.W.nsIn K mainGlobals "min" = some none)
    (n_range : PySem.W.nsIn K mainGlobals "range" = some none)
    (n_tuple : PySem.W.nsIn K mainGlobals "tuple" = some none)
    (a_MOST_LEVELS : PySem.W.nsIn K mainGlobals "MOST_LEVELS" = some (some (.int 8 tk_MOST_LEVELS)))
    (x_nought : frIn K C_NOUGHT 0 1 = true)
    (x_one : frIn K C_ONE 1 1 = true)
    (x_nw : PySem.W.excIn K C_NoWeights vmro "ValueError.__new__" = true)
    (x_tf : PySem.W.excIn K C_TooFar vmro "ValueError.__new__" = true)
    (x_nf : PySem.W.excIn K C_NoFraction vmro "ValueError.__new__" = true)
    : ∃ fd : FuncData, (∀ (s : Shared) (v : Value), BindsTo s fd ⟨[v], []⟩ [("_law_script", v)]) ∧ ∀ base : Heap, K.In base → base.Ns mainGlobals mg → FnOk l.prog w K mg base (CXe l.prog w) 10 fa fd ["_law_script"] (spLaw K) := by
  have e := hfa.symm.trans (PySem.W.mg_of X G a_law)
  cases e
  have T : Tx w K mg C_NOUGHT C_NoFraction C_NoWeights C_ONE C_TooFar := { b_abs := PySem.W.mg_none_of X G n_abs, b_bool := PySem.W.mg_none_of X G n_bool, b_int := PySem.W.mg_none_of X G n_int, b_isinstance := PySem.W.mg_none_of X G n_isinstance, b_len := PySem.W.mg_none_of X G n_len, b_list := PySem.W.mg_none_of X G n_list, b_min := PySem.W.mg_none_of X G n_min, b_range := PySem.W.mg_none_of X G n_range, b_tuple := PySem.W.mg_none_of X G n_tuple, m_NOUGHT := PySem.W.mg_of X G a_NOUGHT, m_NoFraction := PySem.W.mg_of X G a_NoFraction, m_NoWeights := PySem.W.mg_of X G a_NoWeights, m_ONE := PySem.W.mg_of X G a_ONE, m_TooFar := PySem.W.mg_of X G a_TooFar, nought := frIn_sq x_nought, one := frIn_sq x_one, x_NoWeights := x_nw, x_TooFar := x_tf, g_MOST := ⟨_, PySem.W.mg_of X G a_MOST_LEVELS⟩, x_NoFraction := x_nf }
  refine ⟨PySem.W.fnOf "law" "law" (defArgs s_law) (defBody s_law) (defScope s_law) .none kV_law dc_law pm_law an_law cd_law ct_law, fun s v => .of_eq rfl, fun base _ _ => ?_⟩
  have h_is_whole := ok_is_whole (P := l.prog) (w := w) (base := base) (fun_mk (st := s_is_whole) l_is_whole e_is_whole k_is_whole) (PySem.W.mg_of X G a_is_whole) T 
  have h_shared_part := ok_shared_part (P := l.prog) (w := w) (base := base) (fun_mk (st := s_shared_part) l_shared_part e_shared_part k_shared_part) (PySem.W.mg_of X G a_shared_part) T 
  have h_fraction := ok_fraction (P := l.prog) (w := w) (base := base) (fun_mk (st := s_fraction) l_fraction e_fraction k_fraction) (PySem.W.mg_of X G a_fraction) T h_is_whole h_shared_part
  have h_plus := ok_plus (P := l.prog) (w := w) (base := base) (fun_mk (st := s_plus) l_plus e_plus k_plus) (PySem.W.mg_of X G a_plus) T h_shared_part
  have h_times := ok_times (P := l.prog) (w := w) (base := base) (fun_mk (st := s_times) l_times e_times k_times) (PySem.W.mg_of X G a_times) T h_shared_part
  have h_moment_table := ok_moment_table (P := l.prog) (w := w) (base := base) (funD_mk (st := s_moment_table) l_moment_table e_moment_table k_moment_table d_moment_table) (PySem.W.mg_of X G a_moment_table) T 
  have h_shared_bottom := ok_shared_bottom (P := l.prog) (w := w) (base := base) (fun_mk (st := s_shared_bottom) l_shared_bottom e_shared_bottom k_shared_bottom) (PySem.W.mg_of X G a_shared_bottom) T h_shared_part
  have h_folded := ok_folded (P := l.prog) (w := w) (base := base) (fun_mk (st := s_folded) l_folded e_folded k_folded) (PySem.W.mg_of X G a_folded) T 
  have h_whole_measure := ok_whole_measure (P := l.prog) (w := w) (base := base) (fun_mk (st := s_whole_measure) l_whole_measure e_whole_measure k_whole_measure) (PySem.W.mg_of X G a_whole_measure) T h_folded
  have h_measure := ok_measure (P := l.prog) (w := w) (base := base) (fun_mk (st := s_measure) l_measure e_measure k_measure) (PySem.W.mg_of X G a_measure) T h_fraction h_shared_bottom h_whole_measure
  have h_weights_of := ok_weights_of (P := l.prog) (w := w) (base := base) (fun_mk (st := s_weights_of) l_weights_of e_weights_of k_weights_of) (PySem.W.mg_of X G a_weights_of) T 
  have h_height_of := ok_height_of (P := l.prog) (w := w) (base := base) (fun_mk (st := s_height_of) l_height_of e_height_of k_height_of) (PySem.W.mg_of X G a_height_of) T 
  have h_check_reach := ok_check_reach (P := l.prog) (w := w) (base := base) (fun_mk (st := s_check_reach) l_check_reach e_check_reach k_check_reach) (PySem.W.mg_of X G a_check_reach) T h_height_of
  have h_one_step_on := ok_one_step_on (P := l.prog) (w := w) (base := base) (fun_mk (st := s_one_step_on) l_one_step_on e_one_step_on k_one_step_on) (PySem.W.mg_of X G a_one_step_on) T h_plus h_times
  have h_sum_stepped := ok_sum_stepped (P := l.prog) (w := w) (base := base) (funD_mk (st := s_sum_stepped) l_sum_stepped e_sum_stepped k_sum_stepped d_sum_stepped) (PySem.W.mg_of X G a_sum_stepped) T h_check_reach h_height_of h_one_step_on
  have h_moments := ok_moments (P := l.prog) (w := w) (base := base) (fun_mk (st := s_moments) l_moments e_moments k_moments) (PySem.W.mg_of X G a_moments) T h_height_of h_sum_stepped
  have h__law_cell_at := ok__law_cell_at (P := l.prog) (w := w) (base := base) (fun_mk (st := s__law_cell_at) l__law_cell_at e__law_cell_at k__law_cell_at) (PySem.W.mg_of X G a__law_cell_at) T 
  have h__law_stir := ok__law_stir (P := l.prog) (w := w) (base := base) (fun_mk (st := s__law_stir) l__law_stir e__law_stir k__law_stir) (PySem.W.mg_of X G a__law_stir) T 
  have h__law_drawn := ok__law_drawn (P := l.prog) (w := w) (base := base) (fun_mk (st := s__law_drawn) l__law_drawn e__law_drawn k__law_drawn) (PySem.W.mg_of X G a__law_drawn) T h__law_cell_at h__law_stir
  have h__law_whole := ok__law_whole (P := l.prog) (w := w) (base := base) (fun_mk (st := s__law_whole) l__law_whole e__law_whole k__law_whole) (PySem.W.mg_of X G a__law_whole) T 
  have h__law_divisor := ok__law_divisor (P := l.prog) (w := w) (base := base) (fun_mk (st := s__law_divisor) l__law_divisor e__law_divisor k__law_divisor) (PySem.W.mg_of X G a__law_divisor) T 
  have h__law_low := ok__law_low (P := l.prog) (w := w) (base := base) (fun_mk (st := s__law_low) l__law_low e__law_low k__law_low) (PySem.W.mg_of X G a__law_low) T h__law_divisor
  have h__law_add := ok__law_add (P := l.prog) (w := w) (base := base) (fun_mk (st := s__law_add) l__law_add e__law_add k__law_add) (PySem.W.mg_of X G a__law_add) T h__law_low
  have h__law_take := ok__law_take (P := l.prog) (w := w) (base := base) (fun_mk (st := s__law_take) l__law_take e__law_take k__law_take) (PySem.W.mg_of X G a__law_take) T h__law_low
  have h__law_mul := ok__law_mul (P := l.prog) (w := w) (base := base) (fun_mk (st := s__law_mul) l__law_mul e__law_mul k__law_mul) (PySem.W.mg_of X G a__law_mul) T h__law_low
  have h__law_is_fraction := ok__law_is_fraction (P := l.prog) (w := w) (base := base) (fun_mk (st := s__law_is_fraction) l__law_is_fraction e__law_is_fraction k__law_is_fraction) (PySem.W.mg_of X G a__law_is_fraction) T h__law_divisor h__law_whole
  have h__law_weight_by := ok__law_weight_by (P := l.prog) (w := w) (base := base) (fun_mk (st := s__law_weight_by) l__law_weight_by e__law_weight_by k__law_weight_by) (PySem.W.mg_of X G a__law_weight_by) T h__law_low
  have h__law_weights_by := ok__law_weights_by (P := l.prog) (w := w) (base := base) (fun_mk (st := s__law_weights_by) l__law_weights_by e__law_weights_by k__law_weights_by) (PySem.W.mg_of X G a__law_weights_by) T h__law_drawn h__law_weight_by
  have h__law_moments_by := ok__law_moments_by (P := l.prog) (w := w) (base := base) (fun_mk (st := s__law_moments_by) l__law_moments_by e__law_moments_by k__law_moments_by) (PySem.W.mg_of X G a__law_moments_by) T h__law_add h__law_mul
  have h__law_measure_by := ok__law_measure_by (P := l.prog) (w := w) (base := base) (fun_mk (st := s__law_measure_by) l__law_measure_by e__law_measure_by k__law_measure_by) (PySem.W.mg_of X G a__law_measure_by) T h__law_add h__law_mul
  have h__law_row_by := ok__law_row_by (P := l.prog) (w := w) (base := base) (fun_mk (st := s__law_row_by) l__law_row_by e__law_row_by k__law_row_by) (PySem.W.mg_of X G a__law_row_by) T h__law_mul h__law_take
  have h__law_table_of := ok__law_table_of (P := l.prog) (w := w) (base := base) (fun_mk (st := s__law_table_of) l__law_table_of e__law_table_of k__law_table_of) (PySem.W.mg_of X G a__law_table_of) T 
  have h__law_product := ok__law_product (P := l.prog) (w := w) (base := base) (fun_mk (st := s__law_product) l__law_product e__law_product k__law_product) (PySem.W.mg_of X G a__law_product) T h__law_mul
  exact fn_law (fun_mk (st := s_law) l_law e_law k_law) T h__law_drawn h__law_is_fraction h__law_measure_by h__law_moments_by h__law_mul h__law_product h__law_row_by h__law_table_of h__law_weights_by h_measure h_moment_table h_moments h_weights_of
theorem walk {l : PySem.W.OpenLaw} {q : Program} {loose : List Str} {XP : (Str → Option Value) → Heap → Prop} {YP : World → Heap → Prop} {d : DefRec} {K : Params → PySem.W.Frag} (hn : l.most = some 63) (hdf : d.params.defaults = [])
    (hY : ∀ (w : World) (h : Heap), YP w h → (K w.params).In h)
    (F : ∀ (w : World) (mg : Str → Option Value) (fa : Addr) (h : Heap), (K w.params).In h → h.Ns mainGlobals mg → mg d.name = some (.ref fa) →
      ∃ fd : FuncData, (∀ (s : Shared) (u : Value), BindsTo s fd ⟨[u], []⟩ [("_law_script", u)]) ∧ ∀ base : Heap, (K w.params).In base → base.Ns mainGlobals mg → FnOk l.prog w (K w.params) mg base (CXe l.prog w) 10 fa fd ["_law_script"] (spLaw (K w.params))) :
    PySem.W.WalkO q loose XP YP l.row.toRowW d [] (fun f vs => PySem.call f vs) :=
  L2.walk_of (n := 63) (k := 10) (x := "_law_script") (CX := fun w => CXe l.prog w) (sp := fun w => spLaw (K w.params)) hn (by decide) hdf ⟨rfl, by decide, by decide⟩ hY F (fun _ _ a ns hl _ hS => ⟨a, ns, rfl, hS, hl, fun _ => rfl⟩) fun _ _ _ _ _ ⟨_, _, _, _, _, _, _, _, z⟩ => z
end K53
theorem PySem.W.Fast.tw1957720053997797770 : True := trivial
theorem PySem.W.Fast.tw594358077880297796 : True := trivial
theorem PySem.W.Fast.tw233554505567863250 : True := trivial
theorem PySem.W.Fast.tw15632529730597500974 : True := trivial
theorem PySem.W.Fast.tw13853585509637366683 : True := trivial
theorem PySem.W.Fast.tw7297843284878951199 : True := trivial
theorem PySem.W.Fast.tw7853839843846532734 : True := trivial
theorem PySem.W.Fast.tw1668984628037663182 : True := trivial
theorem PySem.W.Fast.tw10469484425960895411 : True := trivial
theorem PySem.W.Fast.tw10705504649394697991 : True := trivial
theorem PySem.W.Fast.tw7315919105119343109 : True := trivial
theorem PySem.W.Fast.tw10613530710077978463 : True := trivial
theorem PySem.W.Fast.tw2154960605126795578 : True := trivial
theorem PySem.W.Fast.tw2928571075841856605 : True := trivial
theorem PySem.W.Fast.tw13932690152861049775 : True := trivial
theorem PySem.W.Fast.tw17436715829938376655 : True := trivial
theorem PySem.W.Fast.tw14262591545870042267 : True := trivial
theorem PySem.W.Fast.tw7458680708870015956 : True := trivial
theorem PySem.W.Fast.tw14476779658394583546 : True := trivial
theorem PySem.W.Fast.tw10727783857340130695 : True := trivial
theorem PySem.W.Fast.tw8920174629569897991 : True := trivial
theorem PySem.W.Fast.tw12574025187892031357 : True := trivial
theorem PySem.W.Fast.tw3232650710773529342 : True := trivial
theorem PySem.W.Fast.tw15590580048088683086 : True := trivial
theorem PySem.W.Fast.tw4538124357212030475 : True := trivial
theorem PySem.W.Fast.tw13765980657121231268 : True := trivial
theorem PySem.W.Fast.tw1646957775903975193 : True := trivial
theorem PySem.W.Fast.tw5687902662539716394 : True := trivial
theorem PySem.W.Fast.tw8812286284279356868 : True := trivial
theorem PySem.W.Fast.tw12061098426774005832 : True := trivial
theorem PySem.W.Fast.tw9479438360115296677 : True := trivial
theorem PySem.W.Fast.tw3727077760979698831 : True := trivial
theorem PySem.W.Fast.tw13602632047809792525 : True := trivial
theorem PySem.W.Fast.tw5599799579841980783 : True := trivial
theorem PySem.W.Fast.tw3339564473104465533 : True := trivial
theorem PySem.W.Fast.tw9983980420234591844 : True := trivial
theorem PySem.W.Fast.tw17565603514483510999 : True := trivial
theorem PySem.W.Fast.tw7273508529840156911 : True := trivial
theorem PySem.W.Fast.tw10413113684014955235 : True := trivial
theorem PySem.W.Fast.tw18238610819782050849 : True := trivial
theorem PySem.W.Fast.tw15971810250602440878 : True := trivial
theorem PySem.W.Fast.tw16042676010161014546 : True := trivial
theorem PySem.W.Fast.tw3759571269423530355 : True := trivial
theorem PySem.W.Fast.tw10574952688603767624 : True := trivial
theorem PySem.W.Fast.tw7925572708594200557 : True := trivial
theorem PySem.W.Fast.tw9118757919593688602 : True := trivial
theorem PySem.W.Fast.tw6922391498295423348 : True := trivial
theorem PySem.W.Fast.tw8782470103308400572 : True := trivial
theorem PySem.W.Fast.tw16213244080765065402 : True := trivial
theorem PySem.W.Fast.tw4352870757156729704 : True := trivial
theorem PySem.W.Fast.tw1251044535501128300 : True := trivial
theorem PySem.W.Fast.tw11617800310865468312 : True := trivial
theorem PySem.W.Fast.tw16807402525915516234 : True := trivial
theorem PySem.W.Fast.tw16678304681313773893 : True := trivial
theorem PySem.W.Fast.tw8698289230561582469 : True := trivial
theorem PySem.W.Fast.tw13235756834325574313 : True := trivial
theorem PySem.W.Fast.tw16995931996088789989 : True := trivial
theorem PySem.W.Fast.tw12880419992592860870 : True := trivial
theorem PySem.W.Fast.tw841582155699187718 : True := trivial
theorem PySem.W.Fast.tw17429903470077349628 : True := trivial
theorem PySem.W.Fast.tw11293951252536217931 : True := trivial
theorem PySem.W.Fast.tw15579205801486609288 : True := trivial
theorem PySem.W.Fast.tw12251481150947181789 : True := trivial
theorem PySem.W.Fast.tw12624681548869581928 : True := trivial
theorem PySem.W.Fast.tw4464978303503840467 : True := trivial
theorem PySem.W.Fast.tw1891575111496215815 : True := trivial
theorem PySem.W.Fast.tw5606268082662753160 : True := trivial
theorem PySem.W.Fast.tw6587533594456522636 : True := trivial
theorem PySem.W.Fast.tw571154995786967133 : True := trivial
theorem PySem.W.Fast.tw5910205397240233402 : True := trivial
theorem PySem.W.Fast.tw11118716587030958940 : True := trivial
theorem PySem.W.Fast.tw16222600075569628364 : True := trivial
theorem PySem.W.Fast.tw8609557089451213912 : True := trivial
theorem PySem.W.Fast.tw9649184972256050094 : True := trivial
theorem PySem.W.Fast.tw14815603502283382063 : True := trivial
theorem PySem.W.Fast.tw2720972537842309325 : True := trivial
theorem PySem.W.Fast.tw9589552475332980033 : True := trivial
theorem PySem.W.Fast.tw16557324766339981447 : True := trivial
theorem PySem.W.Fast.tw469472941667479095 : True := trivial
theorem PySem.W.Fast.tw9636898513483314934 : True := trivial
theorem PySem.W.Fast.tw3052237620485115963 : True := trivial
theorem PySem.W.Fast.tw1827609056551091438 : True := trivial
theorem PySem.W.Fast.tw3700629910195823565 : True := trivial
theorem PySem.W.Fast.tw17319794150360848796 : True := trivial
theorem PySem.W.Fast.tw14672780975200965960 : True := trivial
theorem PySem.W.Fast.tw16738677791252836316 : True := trivial
theorem PySem.W.Fast.tw13111371523629079432 : True := trivial
theorem PySem.W.Fast.tw3050988509641311190 : True := trivial
theorem PySem.W.Fast.tw8013645005382173569 : True := trivial
theorem PySem.W.Fast.tw14970723036948813579 : True := trivial
theorem PySem.W.Fast.tw15101354286202836224 : True := trivial
theorem PySem.W.Fast.tw5758082977642457567 : True := trivial
theorem PySem.W.Fast.tw1685461317738012041 : True := trivial
theorem PySem.W.Fast.tw16289655618782107819 : True := trivial
theorem PySem.W.Fast.tw1206172249104158305 : True := trivial
theorem PySem.W.Fast.tw4197263364192443822 : True := trivial
theorem PySem.W.Fast.tw239421283082348934 : True := trivial
theorem PySem.W.Fast.tw2979433982105831636 : True := trivial
theorem PySem.W.Fast.tw7689828328455306811 : True := trivial
theorem PySem.W.Fast.tw11281070739183543304 : True := trivial
theorem PySem.W.Fast.tw2181792100253416374 : True := trivial
theorem PySem.W.Fast.tw8109262278743508614 : True := trivial
theorem PySem.W.Fast.tw683804687791439042 : True := trivial
theorem PySem.W.Fast.tw2847294715624655408 : True := trivial
theorem PySem.W.Fast.tw18112845660245268952 : True := trivial
theorem PySem.W.Fast.tw7747713504408954087 : True := trivial
theorem PySem.W.Fast.tw3465437059390380655 : True := trivial
theorem PySem.W.Fast.tw18342988174678627441 : True := trivial
theorem PySem.W.Fast.tw11274788065315311493 : True := trivial
theorem PySem.W.Fast.tw5579095924061936498 : True := trivial
theorem PySem.W.Fast.tw3276275187566843014 : True := trivial
theorem PySem.W.Fast.tw12576609930984460169 : True := trivial
theorem PySem.W.Fast.tw18024708442647658479 : True := trivial
theorem PySem.W.Fast.tw7720186965342686911 : True := trivial
theorem PySem.W.Fast.tw14752863452538687726 : True := trivial
theorem PySem.W.Fast.tw10034074534455653500 : True := trivial
theorem PySem.W.Fast.tw12372731562349244035 : True := trivial
theorem PySem.W.Fast.tw15008659253230655590 : True := trivial
theorem PySem.W.Fast.tw3872144539436618476 : True := trivial
theorem PySem.W.Fast.tw4948065608419068358 : True := trivial
theorem PySem.W.Fast.tw13493346408303458195 : True := trivial
theorem PySem.W.Fast.tw12924385238206914059 : True := trivial
theorem PySem.W.Fast.tw8597750123400389407 : True := trivial
theorem PySem.W.Fast.tw6808854954388769438 : True := trivial
theorem PySem.W.Fast.tw1207746893391774037 : True := trivial
theorem PySem.W.Fast.tw986443586095142785 : True := trivial
theorem PySem.W.Fast.tw9174637038563559244 : True := trivial
theorem PySem.W.Fast.tw11833410024698439210 : True := trivial
theorem PySem.W.Fast.tw6883129723635250958 : True := trivial
theorem PySem.W.Fast.tw2699814782975670599 : True := trivial
theorem PySem.W.Fast.tw13363341702846142343 : True := trivial
theorem PySem.W.Fast.tw12249833413686931589 : True := trivial
theorem PySem.W.Fast.tw1516069217857876211 : True := trivial
theorem PySem.W.Fast.tw13810684916035101973 : True := trivial
theorem PySem.W.Fast.tw3665967320376578136 : True := trivial
theorem PySem.W.Fast.tw8336837513698914550 : True := trivial
theorem PySem.W.Fast.tw8602749712803249589 : True := trivial
theorem PySem.W.Fast.tw13807938622686057708 : True := trivial
theorem PySem.W.Fast.tw16956911435788567619 : True := trivial
theorem PySem.W.Fast.tw538277228422872834 : True := trivial
theorem PySem.W.Fast.tw11883672533842434797 : True := trivial
theorem PySem.W.Fast.tw13930496000616339916 : True := trivial
theorem PySem.W.Fast.tw7033312921314622610 : True := trivial
theorem PySem.W.Fast.tw7056329512332773280 : True := trivial
theorem PySem.W.Fast.tw15700866516945964048 : True := trivial
theorem PySem.W.Fast.tw15222042032768849182 : True := trivial
theorem PySem.W.Fast.tw1955334622933336187 : True := trivial
theorem PySem.W.Fast.tw9496896948158248980 : True := trivial
theorem PySem.W.Fast.tw13860753507586907397 : True := trivial
theorem PySem.W.Fast.tw5341216988968331224 : True := trivial
theorem PySem.W.Fast.tw1526236254998137067 : True := trivial
theorem PySem.W.Fast.tw1423791544136924364 : True := trivial
theorem PySem.W.Fast.tw15098381709752110309 : True := trivial
theorem PySem.W.Fast.tw1803264139695528437 : True := trivial
theorem PySem.W.Fast.tw8932065867481380176 : True := trivial
theorem PySem.W.Fast.tw13162747793032793225 : True := trivial
theorem PySem.W.Fast.tw9823383387823803823 : True := trivial
theorem PySem.W.Fast.tw17883589309674391709 : True := trivial
theorem PySem.W.Fast.tw18075855727173631926 : True := trivial
theorem PySem.W.Fast.tw13069037313210737933 : True := trivial
theorem PySem.W.Fast.tw14616094263897346057 : True := trivial
theorem PySem.W.Fast.tw17458015118665485500 : True := trivial
theorem PySem.W.Fast.tw10088345214227764985 : True := trivial
theorem PySem.W.Fast.tw1499779776967135313 : True := trivial
theorem PySem.W.Fast.tw1102842119053166369 : True := trivial
theorem PySem.W.Fast.tw3809210491245722877 : True := trivial
theorem PySem.W.Fast.tw10417067962635581448 : True := trivial
theorem PySem.W.Fast.tw11971892654129312509 : True := trivial
theorem PySem.W.Fast.tw11036118109997217542 : True := trivial
theorem PySem.W.Fast.tw10162649297938786362 : True := trivial
theorem PySem.W.Fast.tw15715489147260809134 : True := trivial
theorem PySem.W.Fast.tw14638664841187207556 : True := trivial
theorem PySem.W.Fast.tw16170443115745820845 : True := trivial
theorem PySem.W.Fast.tw12237712315537666949 : True := trivial
theorem PySem.W.Fast.tw476288003058654825 : True := trivial
theorem PySem.W.Fast.tw13511308840680425365 : True := trivial
theorem PySem.W.Fast.tw7843288028562473331 : True := trivial
theorem PySem.W.Fast.tw7173792967396540503 : True := trivial
theorem PySem.W.Fast.tw5435292158666148497 : True := trivial
theorem PySem.W.Fast.tw3441247018958093961 : True := trivial
theorem PySem.W.Fast.tw12055079544503414359 : True := trivial
theorem PySem.W.Fast.tw16189275976259029454 : True := trivial
theorem PySem.W.Fast.tw12264157520127769774 : True := trivial
theorem PySem.W.Fast.tw627562732553715478 : True := trivial
theorem PySem.W.Fast.tw12387963886493401194 : True := trivial
theorem PySem.W.Fast.tw6657796046120359149 : True := trivial
theorem PySem.W.Fast.tw6336766868998583395 : True := trivial
theorem PySem.W.Fast.tw3578326401541897106 : True := trivial
theorem PySem.W.Fast.tw1708273426796720200 : True := trivial
theorem PySem.W.Fast.tw7016896861712988380 : True := trivial
theorem PySem.W.Fast.tw14668147442700209465 : True := trivial
theorem PySem.W.Fast.tw6770717004307295656 : True := trivial
theorem PySem.W.Fast.tw9450950414482374133 : True := trivial
theorem PySem.W.Fast.tw9972406570150728464 : True := trivial
theorem PySem.W.Fast.tw9122551754331034824 : True := trivial
theorem PySem.W.Fast.tw8147583238856093854 : True := trivial
theorem PySem.W.Fast.tw16517718395650619533 : True := trivial
theorem PySem.W.Fast.tw7504731888396660894 : True := trivial
theorem PySem.W.Fast.tw2698367634774475964 : True := trivial
theorem PySem.W.Fast.tw9051498106685746665 : True := trivial
theorem PySem.W.Fast.tw7253200423428015383 : True := trivial
theorem PySem.W.Fast.tw8671466594971845715 : True := trivial
theorem PySem.W.Fast.tw15594514244970105094 : True := trivial
theorem PySem.W.Fast.tw3295718549795410479 : True := trivial
theorem PySem.W.Fast.tw9396918400556029903 : True := trivial
theorem PySem.W.Fast.tw17130486676306340290 : True := trivial
theorem PySem.W.Fast.tw6442276367705383518 : True := trivial
theorem PySem.W.Fast.tw17339563767589369699 : True := trivial
theorem PySem.W.Fast.tw15352557491508387074 : True := trivial
theorem PySem.W.Fast.tw12259751827733060662 : True := trivial
theorem PySem.W.Fast.tw17255362412172433934 : True := trivial
theorem PySem.W.Fast.tw9080228640061287817 : True := trivial
theorem PySem.W.Fast.tw15410525124281887038 : True := trivial
theorem PySem.W.Fast.tw9004674094746821414 : True := trivial
theorem PySem.W.Fast.tw2947341202038765927 : True := trivial
theorem PySem.W.Fast.tw3351832893941518970 : True := trivial
theorem PySem.W.Fast.tw6486240982705330593 : True := trivial
theorem PySem.W.Fast.tw17276875083534625485 : True := trivial
theorem PySem.W.Fast.tw3740255699452956076 : True := trivial
theorem PySem.W.Fast.tw14879229260860051475 : True := trivial
theorem PySem.W.Fast.tw2014095519785610771 : True := trivial
theorem PySem.W.Fast.tw3480182512043428052 : True := trivial
theorem PySem.W.Fast.tw11354592203898437171 : True := trivial
theorem PySem.W.Fast.tw8816173477999548272 : True := trivial
theorem PySem.W.Fast.tw9918602520985600341 : True := trivial
theorem PySem.W.Fast.tw17262584063224890596 : True := trivial
theorem PySem.W.Fast.tw18076606306973827405 : True := trivial
theorem PySem.W.Fast.tw6401923805946241574 : True := trivial
theorem PySem.W.Fast.tw12612024266739905636 : True := trivial
theorem PySem.W.Fast.tw6276796161773516022 : True := trivial
theorem PySem.W.Fast.tw17584540833154633522 : True := trivial
theorem PySem.W.Fast.tw942243976187391774 : True := trivial
theorem PySem.W.Fast.tw7940702781043807899 : True := trivial
theorem PySem.W.Fast.tw4729905366305055278 : True := trivial
theorem PySem.W.Fast.tw9457344089537746508 : True := trivial
theorem PySem.W.Fast.tw11548288505467675331 : True := trivial
theorem PySem.W.Fast.tw10019316526167154376 : True := trivial
theorem PySem.W.Fast.tw7857483030992986214 : True := trivial
theorem PySem.W.Fast.tw15476286830741595185 : True := trivial
theorem PySem.W.Fast.tw10637511946802519161 : True := trivial
theorem PySem.W.Fast.tw5759538331939828103 : True := trivial
theorem PySem.W.Fast.tw14919144403358706436 : True := trivial
theorem PySem.W.Fast.tw17939217163909562064 : True := trivial
theorem PySem.W.Fast.tw16504044695542836197 : True := trivial
theorem PySem.W.Fast.tw15401778586015099434 : True := trivial
theorem PySem.W.Fast.tw18238843599234899523 : True := trivial
theorem PySem.W.Fast.tw5370239481344548177 : True := trivial
theorem PySem.W.Fast.tw7343242404161681312 : True := trivial
theorem PySem.W.Fast.tw15857508433239693780 : True := trivial
theorem PySem.W.Fast.tw2644497151595925899 : True := trivial
theorem PySem.W.Fast.tw4670974412495660471 : True := trivial
theorem PySem.W.Fast.tw9002176195893843674 : True := trivial
theorem PySem.W.Fast.tw7369195127709832794 : True := trivial
theorem PySem.W.Fast.tw1941379228581644308 : True := trivial
theorem PySem.W.Fast.tw14652217967532606569 : True := trivial
theorem PySem.W.Fast.tw8597877430563477695 : True := trivial
theorem PySem.W.Fast.tw1588604485158337491 : True := trivial
theorem PySem.W.Fast.tw12608375918916433485 : True := trivial
theorem PySem.W.Fast.tw15671820328094617055 : True := trivial
theorem PySem.W.Fast.tw9680437879672841897 : True := trivial
theorem PySem.W.Fast.tw2452687146233725846 : True := trivial
theorem PySem.W.Fast.tw15102178421480363634 : True := trivial
theorem PySem.W.Fast.tw11717297214982011950 : True := trivial
theorem PySem.W.Fast.tw17628685367923981005 : True := trivial
theorem PySem.W.Fast.tw16698411020962630342 : True := trivial
theorem PySem.W.Fast.tw15627734980714981680 : True := trivial
theorem PySem.W.Fast.tw2288019169300214880 : True := trivial
theorem PySem.W.Fast.tw13586368913563538181 : True := trivial
theorem PySem.W.Fast.tw11249712737120999652 : True := trivial
theorem PySem.W.Fast.tw1576284107457640962 : True := trivial
theorem PySem.W.Fast.tw6757538346834508633 : True := trivial
theorem PySem.W.Fast.tw9181972668107970259 : True := trivial
theorem PySem.W.Fast.tw1216730869236156607 : True := trivial
theorem PySem.W.Fast.tw629359102178835103 : True := trivial
theorem PySem.W.Fast.tw5367319877926345749 : True := trivial
theorem PySem.W.Fast.tw9789012323368653479 : True := trivial
theorem PySem.W.Fast.tw16413107928659165405 : True := trivial
theorem PySem.W.Fast.tw6505447487852183352 : True := trivial
theorem PySem.W.Fast.tw15175870553997252736 : True := trivial
theorem PySem.W.Fast.tw16062170429972030041 : True := trivial
theorem PySem.W.Fast.tw14432889385814415519 : True := trivial
theorem PySem.W.Fast.tw16984680774699037667 : True := trivial
theorem PySem.W.Fast.tw12171137140758169816 : True := trivial
theorem PySem.W.Fast.tw8338257905214437240 : True := trivial
theorem PySem.W.Fast.tw2159118775220862312 : True := trivial
theorem PySem.W.Fast.tw11056352999768006760 : True := trivial
theorem PySem.W.Fast.tw12455105351791869318 : True := trivial
theorem PySem.W.Fast.tw7350134580564947180 : True := trivial
theorem PySem.W.Fast.tw11176914927715573633 : True := trivial
theorem PySem.W.Fast.tw4140879371086422160 : True := trivial
theorem PySem.W.Fast.tw10734466691511150121 : True := trivial
theorem PySem.W.Fast.tw15353783551668708618 : True := trivial
theorem PySem.W.Fast.tw14762280767381517136 : True := trivial
theorem PySem.W.Fast.tw637311652288401909 : True := trivial
theorem PySem.W.Fast.tw6096003717851724739 : True := trivial
theorem PySem.W.Fast.tw5611159136896643297 : True := trivial
theorem PySem.W.Fast.tw3858011539048835436 : True := trivial
theorem PySem.W.Fast.tw3016648728559074488 : True := trivial
theorem PySem.W.Fast.tw5069035551802520746 : True := trivial
theorem PySem.W.Fast.tw1736909232960175653 : True := trivial
theorem PySem.W.Fast.tw4313473148779985481 : True := trivial
theorem PySem.W.Fast.tw6008237440337081180 : True := trivial
theorem PySem.W.Fast.tw3028990351148860829 : True := trivial
theorem PySem.W.Fast.tw13231930675135036307 : True := trivial
theorem PySem.W.Fast.tw5787614553807802866 : True := trivial
theorem PySem.W.Fast.tw4229873173785917372 : True := trivial
theorem PySem.W.Fast.tw6529374709118885972 : True := trivial
theorem PySem.W.Fast.tw9160786568109079260 : True := trivial
theorem PySem.W.Fast.tw10198871038900422200 : True := trivial
theorem PySem.W.Fast.tw1109549563274463402 : True := trivial
theorem PySem.W.Fast.tw15911220204607544835 : True := trivial
theorem PySem.W.Fast.tw10883922926851391281 : True := trivial
theorem PySem.W.Fast.tw1304803431882841872 : True := trivial
theorem PySem.W.Fast.tw1934611707038354297 : True := trivial
theorem PySem.W.Fast.tw18246818614091297523 : True := trivial
theorem PySem.W.Fast.tw3449114100957264972 : True := trivial
theorem PySem.W.Fast.tw10759403206908359341 : True := trivial
theorem PySem.W.Fast.tw11812497764761614322 : True := trivial
theorem PySem.W.Fast.tw4392393630615052660 : True := trivial
theorem PySem.W.Fast.tw13376849812265478647 : True := trivial
theorem PySem.W.Fast.tw6456559221488979331 : True := trivial
theorem PySem.W.Fast.tw11640419990675751761 : True := trivial
theorem PySem.W.Fast.tw2211545640052594530 : True := trivial
theorem PySem.W.Fast.tw17952397248741617667 : True := trivial
theorem PySem.W.Fast.tw11437885920392339945 : True := trivial
theorem PySem.W.Fast.tw13150461479626041348 : True := trivial
theorem PySem.W.Fast.tw11309909463376300065 : True := trivial
theorem PySem.W.Fast.tw10064231698362978677 : True := trivial
theorem PySem.W.Fast.tw14848274947733771957 : True := trivial
theorem PySem.W.Fast.tw9105046421031922697 : True := trivial
theorem PySem.W.Fast.tw13287374299169559824 : True := trivial
theorem PySem.W.Fast.tw9534008400452913058 : True := trivial
theorem PySem.W.Fast.tw11572255948256303191 : True := trivial
theorem PySem.W.Fast.tw6727701613171008979 : True := trivial
theorem PySem.W.Fast.tw8259590013135653211 : True := trivial
theorem PySem.W.Fast.tw17030465467381946058 : True := trivial
theorem PySem.W.Fast.tw3320587617059881133 : True := trivial
theorem PySem.W.Fast.tw13486786661295899378 : True := trivial
theorem PySem.W.Fast.tw16601835972531908177 : True := trivial
theorem PySem.W.Fast.tw12214957500436690674 : True := trivial
theorem PySem.W.Fast.tw10882910804701085765 : True := trivial
theorem PySem.W.Fast.tw13892429847804198519 : True := trivial
theorem PySem.W.Fast.tw9777514575776035253 : True := trivial
theorem PySem.W.Fast.tw5682562062384355375 : True := trivial
theorem PySem.W.Fast.tw11742429646878491321 : True := trivial
theorem PySem.W.Fast.tw2775527790712768827 : True := trivial
theorem PySem.W.Fast.tw7612183188051833718 : True := trivial
theorem PySem.W.Fast.tw11109818616925171708 : True := trivial
theorem PySem.W.Fast.tw16237509292278325370 : True := trivial
theorem PySem.W.Fast.tw18108075188494687947 : True := trivial
theorem PySem.W.Fast.tw12358896428373016683 : True := trivial
theorem PySem.W.Fast.tw12147735549948559015 : True := trivial
theorem PySem.W.Fast.tw5064990540065832408 : True := trivial
theorem PySem.W.Fast.tw5496395519185177681 : True := trivial
theorem PySem.W.Fast.tw16245963377318318681 : True := trivial
theorem PySem.W.Fast.tw12633518936710067432 : True := trivial
theorem PySem.W.Fast.tw6520774889437575965 : True := trivial
theorem PySem.W.Fast.tw3738937734722140862 : True := trivial
theorem PySem.W.Fast.tw1653136588088663988 : True := trivial
theorem PySem.W.Fast.tw14844921449975822959 : True := trivial
theorem PySem.W.Fast.tw31147463508152427 : True := trivial
theorem PySem.W.Fast.tw13070937653393318400 : True := trivial
theorem PySem.W.Fast.tw13424976472069326960 : True := trivial
theorem PySem.W.Fast.tw16035562198091531954 : True := trivial
theorem PySem.W.Fast.tw12233675873712538449 : True := trivial
theorem PySem.W.Fast.tw8221047495769884454 : True := trivial
theorem PySem.W.Fast.tw12838091756419033751 : True := trivial
theorem PySem.W.Fast.tw4529937580809579964 : True := trivial
theorem PySem.W.Fast.tw7448327412083186796 : True := trivial
theorem PySem.W.Fast.tw14632297929233571445 : True := trivial
theorem PySem.W.Fast.tw10936794835108434413 : True := trivial
theorem PySem.W.Fast.tw2303204795779508157 : True := trivial
theorem PySem.W.Fast.tw6993316078255915289 : True := trivial
theorem PySem.W.Fast.tw1367309041603815813 : True := trivial
theorem PySem.W.Fast.tw15284722920058893816 : True := trivial
theorem PySem.W.Fast.tw17794517572386663763 : True := trivial
theorem PySem.W.Fast.tw9276075019523746098 : True := trivial
theorem PySem.W.Fast.tw15922435911518004607 : True := trivial
theorem PySem.W.Fast.tw5365494999434196309 : True := trivial
theorem PySem.W.Fast.tw14126322195767796207 : True := trivial
theorem PySem.W.Fast.tw14242189736226152007 : True := trivial
theorem PySem.W.Fast.tw5741893140831602278 : True := trivial
theorem PySem.W.Fast.tw2418626905180956815 : True := trivial
theorem PySem.W.Fast.tw5869527875768195914 : True := trivial
theorem PySem.W.Fast.tw16812514164382337447 : True := trivial
theorem PySem.W.Fast.tw12453876926165609060 : True := trivial
theorem PySem.W.Fast.tw8427405284137093703 : True := trivial
theorem PySem.W.Fast.tw9393704374840762544 : True := trivial
theorem PySem.W.Fast.tw2050569192936140420 : True := trivial
theorem PySem.W.Fast.tw13821140996294037289 : True := trivial
theorem PySem.W.Fast.tw9401515554293361286 : True := trivial
theorem PySem.W.Fast.tw10059082772244878812 : True := trivial
theorem PySem.W.Fast.tw16886637180618542176 : True := trivial
theorem PySem.W.Fast.tw6599595654089237002 : True := trivial
theorem PySem.W.Fast.tw14961828252302056159 : True := trivial
theorem PySem.W.Fast.tw16409752292001201474 : True := trivial
theorem PySem.W.Fast.tw14917694119800551285 : True := trivial
theorem PySem.W.Fast.tw17542694168616913024 : True := trivial
theorem PySem.W.Fast.tw17564268939292084494 : True := trivial
theorem PySem.W.Fast.tw5134503235934939748 : True := trivial
theorem PySem.W.Fast.tw2651802024890435372 : True := trivial
theorem PySem.W.Fast.tw1933748244413915956 : True := trivial
theorem PySem.W.Fast.tw16369042091679045652 : True := trivial
theorem PySem.W.Fast.tw9015910467795603329 : True := trivial
theorem PySem.W.Fast.tw11818128451173622197 : True := trivial
theorem PySem.W.Fast.tw3258845957489947568 : True := trivial
theorem PySem.W.Fast.tw13419110058341893086 : True := trivial
theorem PySem.W.Fast.tw8776612277980848423 : True := trivial
theorem PySem.W.Fast.tw5566415827897507174 : True := trivial
theorem PySem.W.Fast.tw16407636612025404245 : True := trivial
theorem PySem.W.Fast.tw4533883806423214774 : True := trivial
theorem PySem.W.Fast.tw2524693775357538992 : True := trivial
theorem PySem.W.Fast.tw3956527982924296425 : True := trivial
theorem PySem.W.Fast.tw5747371953609095138 : True := trivial
theorem PySem.W.Fast.tw10858401121838131756 : True := trivial
theorem PySem.W.Fast.tw1434797493152852723 : True := trivial
theorem PySem.W.Fast.tw1747137150722583572 : True := trivial
theorem PySem.W.Fast.tw6977767583400907985 : True := trivial
theorem PySem.W.Fast.tw8752589401917108742 : True := trivial
theorem PySem.W.Fast.tw1919470155291594562 : True := trivial
theorem PySem.W.Fast.tw8164359218491916402 : True := trivial
theorem PySem.W.Fast.tw15141228016580209048 : True := trivial
theorem PySem.W.Fast.tw6870490646605848984 : True := trivial
theorem PySem.W.Fast.tw543841850984508659 : True := trivial
theorem PySem.W.Fast.tw7188962429495479559 : True := trivial
theorem PySem.W.Fast.tw8253664137463918659 : True := trivial
theorem PySem.W.Fast.tw6287332052366203112 : True := trivial
theorem PySem.W.Fast.tw10881555863267469173 : True := trivial
theorem PySem.W.Fast.tw10077537763012831315 : True := trivial
theorem PySem.W.Fast.tw8533807828217852441 : True := trivial
theorem PySem.W.Fast.tw5544865710901738451 : True := trivial
theorem PySem.W.Fast.tw9289724628252716183 : True := trivial
theorem PySem.W.Fast.tw1591552705933654567 : True := trivial
theorem PySem.W.Fast.tw9430294814757991649 : True := trivial
theorem PySem.W.Fast.tw4495143351224443880 : True := trivial
theorem PySem.W.Fast.tw11251420621484955441 : True := trivial
theorem PySem.W.Fast.tw507733694829387902 : True := trivial
theorem PySem.W.Fast.tw4096990820711447105 : True := trivial
theorem PySem.W.Fast.tw744046998268492258 : True := trivial
theorem PySem.W.Fast.tw12100679339596820109 : True := trivial
theorem PySem.W.Fast.tw2675295604781455908 : True := trivial
theorem PySem.W.Fast.tw17156758603245662745 : True := trivial
theorem PySem.W.Fast.tw16540754761575221328 : True := trivial
theorem PySem.W.Fast.tw161018911901146607 : True := trivial
theorem PySem.W.Fast.tw11451220336722431759 : True := trivial
theorem PySem.W.Fast.tw6911450286123310950 : True := trivial
theorem PySem.W.Fast.tw17285830372758742661 : True := trivial
theorem PySem.W.Fast.tw10852422414819957465 : True := trivial
theorem PySem.W.Fast.tw12679502918867478629 : True := trivial
theorem PySem.W.Fast.tw2533089427773626847 : True := trivial
theorem PySem.W.Fast.tw9042202666759533371 : True := trivial
theorem PySem.W.Fast.tw9976636788560934208 : True := trivial
theorem PySem.W.Fast.tw17883606296794560733 : True := trivial
theorem PySem.W.Fast.tw14274107466580522355 : True := trivial
theorem PySem.W.Fast.tw17846814740749516833 : True := trivial
theorem PySem.W.Fast.tw15558585048636538843 : True := trivial
theorem PySem.W.Fast.tw14309267214039055594 : True := trivial
theorem PySem.W.Fast.tw67838795068287307 : True := trivial
theorem PySem.W.Fast.tw3873908078189212029 : True := trivial
theorem PySem.W.Fast.tw10062991725874862543 : True := trivial
theorem PySem.W.Fast.tw5130230244589796228 : True := trivial
theorem PySem.W.Fast.tw2948313079111299120 : True := trivial
theorem PySem.W.Fast.tw5507391611081498188 : True := trivial
theorem PySem.W.Fast.tw10454156437951400866 : True := trivial
theorem PySem.W.Fast.tw18012061259014291088 : True := trivial
theorem PySem.W.Fast.tw14487096327649912368 : True := trivial
theorem PySem.W.Fast.tw15108028452920049405 : True := trivial
theorem PySem.W.Fast.tw4507515720170907684 : True := trivial
theorem PySem.W.Fast.tw16243158852905580900 : True := trivial
theorem PySem.W.Fast.tw9443638409656137274 : True := trivial
theorem PySem.W.Fast.tw690131852924845860 : True := trivial
theorem PySem.W.Fast.tw4929252963345273979 : True := trivial
theorem PySem.W.Fast.tw3934558536459612640 : True := trivial
theorem PySem.W.Fast.tw238438503657131701 : True := trivial
theorem PySem.W.Fast.tw8324154726631272796 : True := trivial
theorem PySem.W.Fast.tw10152497173775593521 : True := trivial
theorem PySem.W.Fast.tw4843894317524598162 : True := trivial
theorem PySem.W.Fast.tw16462991614883098154 : True := trivial
theorem PySem.W.Fast.tw7400730155337696500 : True := trivial
theorem PySem.W.Fast.tw4356987635385098205 : True := trivial
theorem PySem.W.Fast.tw8950788742040786102 : True := trivial
theorem PySem.W.Fast.tw9636364129575610355 : True := trivial
theorem PySem.W.Fast.tw15744490003632540561 : True := trivial
theorem PySem.W.Fast.tw10114684270356398548 : True := trivial
theorem PySem.W.Fast.tw16259120646902807091 : True := trivial
theorem PySem.W.Fast.tw5725128881161645196 : True := trivial
theorem PySem.W.Fast.tw10418470578721232415 : True := trivial
theorem PySem.W.Fast.tw352477411072971156 : True := trivial
theorem PySem.W.Fast.tw15610867455831669188 : True := trivial
theorem PySem.W.Fast.tw17480071121639325891 : True := trivial
theorem PySem.W.Fast.tw1688736374629249512 : True := trivial
theorem PySem.W.Fast.tw13305747793745661653 : True := trivial
theorem PySem.W.Fast.tw7063090313530245104 : True := trivial
theorem PySem.W.Fast.tw5812081678972662690 : True := trivial
theorem PySem.W.Fast.tw17622717127993404481 : True := trivial
theorem PySem.W.Fast.tw6703417428324934797 : True := trivial
theorem PySem.W.Fast.tw3804516831908731794 : True := trivial
theorem PySem.W.Fast.tw6120304385173503819 : True := trivial
theorem PySem.W.Fast.tw12051914281441094916 : True := trivial
theorem PySem.W.Fast.tw17876915585790757746 : True := trivial
theorem PySem.W.Fast.tw14356236254820947692 : True := trivial
theorem PySem.W.Fast.tw11295464850204406597 : True := trivial
theorem PySem.W.Fast.tw11257122853504631461 : True := trivial
theorem PySem.W.Fast.tw14545221641103352739 : True := trivial
theorem PySem.W.Fast.tw16720011340878049326 : True := trivial
theorem PySem.W.Fast.tw18324081490225170504 : True := trivial
theorem PySem.W.Fast.tw16328203225609294206 : True := trivial
theorem PySem.W.Fast.tw5482370836392415288 : True := trivial
theorem PySem.W.Fast.tw4503239092794219669 : True := trivial
theorem PySem.W.Fast.tw8653524350692856118 : True := trivial
theorem PySem.W.Fast.tw17107441961602624892 : True := trivial
theorem PySem.W.Fast.tw3024756768334650537 : True := trivial
theorem PySem.W.Fast.tw837044802354218174 : True := trivial
theorem PySem.W.Fast.tw16081076847756791179 : True := trivial
theorem PySem.W.Fast.tw5496641344921873237 : True := trivial
theorem PySem.W.Fast.tw5829802209040167496 : True := trivial
theorem PySem.W.Fast.tw5318694548436437386 : True := trivial
theorem PySem.W.Fast.tw17096038249978799691 : True := trivial
theorem PySem.W.Fast.tw16444481495172532918 : True := trivial
theorem PySem.W.Fast.tw6893894641956579678 : True := trivial
theorem PySem.W.Fast.tw6931633975647317177 : True := trivial
theorem PySem.W.Fast.tw18376922352049213324 : True := trivial
theorem PySem.W.Fast.tw1811035200280732223 : True := trivial
theorem PySem.W.Fast.tw16368737234767421344 : True := trivial
theorem PySem.W.Fast.tw12366475921532571789 : True := trivial
theorem PySem.W.Fast.tw11072570581029775768 : True := trivial
theorem PySem.W.Fast.tw1211686450458340581 : True := trivial
theorem PySem.W.Fast.tw17976816924023601154 : True := trivial
theorem PySem.W.Fast.tw6198190311325607672 : True := trivial
theorem PySem.W.Fast.tw15230833737324502711 : True := trivial
theorem PySem.W.Fast.tw3515906828417307194 : True := trivial
theorem PySem.W.Fast.tw8878976629327848497 : True := trivial
theorem PySem.W.Fast.tw14808620567017357160 : True := trivial
theorem PySem.W.Fast.tw636033584627618601 : True := trivial
theorem PySem.W.Fast.tw9089622036422892211 : True := trivial
theorem PySem.W.Fast.tw4809289025122547841 : True := trivial
theorem PySem.W.Fast.tw16681879548632427011 : True := trivial
theorem PySem.W.Fast.tw9695284287195835230 : True := trivial
theorem PySem.W.Fast.tw14432153991628832301 : True := trivial
theorem PySem.W.Fast.tw7614187102153202115 : True := trivial
theorem PySem.W.Fast.tw16943210906230653635 : True := trivial
theorem PySem.W.Fast.tw13248452517633830258 : True := trivial
theorem PySem.W.Fast.tw1038060309762025818 : True := trivial
theorem PySem.W.Fast.tw12431660594661164403 : True := trivial
theorem PySem.W.Fast.tw15590526402359734942 : True := trivial
theorem PySem.W.Fast.tw17611705774342823336 : True := trivial
theorem PySem.W.Fast.tw4259973390708482352 : True := trivial
theorem PySem.W.Fast.tw4863780343850924921 : True := trivial
theorem PySem.W.Fast.tw9617968269497239227 : True := trivial
theorem PySem.W.Fast.tw5161278912123325576 : True := trivial
theorem PySem.W.Fast.tw14932072195459510307 : True := trivial
theorem PySem.W.Fast.tw9213960014114267474 : True := trivial
theorem PySem.W.Fast.tw477320314560054242 : True := trivial
theorem PySem.W.Fast.tw2001177050490590066 : True := trivial
theorem PySem.W.Fast.tw10447328477982466005 : True := trivial
theorem PySem.W.Fast.tw17217470623850053991 : True := trivial
theorem PySem.W.Fast.tw11249289607535145297 : True := trivial
theorem PySem.W.Fast.tw1403506436963958625 : True := trivial
theorem PySem.W.Fast.tw3785151444598946911 : True := trivial
theorem PySem.W.Fast.tw3557661867447750805 : True := trivial
theorem PySem.W.Fast.tw14746275350967150451 : True := trivial
theorem PySem.W.Fast.tw7946111968561017955 : True := trivial
theorem PySem.W.Fast.tw17381845831477417684 : True := trivial
theorem PySem.W.Fast.tw14360035674682008414 : True := trivial
theorem PySem.W.Fast.tw6730450207934562204 : True := trivial
theorem PySem.W.Fast.tw1774749831144145083 : True := trivial
theorem PySem.W.Fast.tw8509545233424015857 : True := trivial
theorem PySem.W.Fast.tw3796163209861480393 : True := trivial
theorem PySem.W.Fast.tw9878138112385971020 : True := trivial
theorem PySem.W.Fast.tw17792247778051860538 : True := trivial
theorem PySem.W.Fast.tw13778167717009451534 : True := trivial
theorem PySem.W.Fast.tw12790287154582762636 : True := trivial
theorem PySem.W.Fast.tw13187810724958003683 : True := trivial
theorem PySem.W.Fast.tw15312287987696592549 : True := trivial
theorem PySem.W.Fast.tw1897608464175806855 : True := trivial
theorem PySem.W.Fast.tw16142113337322352823 : True := trivial
theorem PySem.W.Fast.tw16492776963600753830 : True := trivial
theorem PySem.W.Fast.tw6085427948691811895 : True := trivial
theorem PySem.W.Fast.tw6798070059251640334 : True := trivial
theorem PySem.W.Fast.tw4472614665261713626 : True := trivial
theorem PySem.W.Fast.tw17348919082238417467 : True := trivial
theorem PySem.W.Fast.tw15434999140196846681 : True := trivial
theorem PySem.W.Fast.tw13613405780978595946 : True := trivial
theorem PySem.W.Fast.tw1928670352509619855 : True := trivial
theorem PySem.W.Fast.tw17193901041400472613 : True := trivial
theorem PySem.W.Fast.tw5800678260206128263 : True := trivial
theorem PySem.W.Fast.tw3039806032486791471 : True := trivial
theorem PySem.W.Fast.tw9873036702724097321 : True := trivial
theorem PySem.W.Fast.tw5014211341983848358 : True := trivial
theorem PySem.W.Fast.tw9421804094688460410 : True := trivial
theorem PySem.W.Fast.tw17980563501147873528 : True := trivial
theorem PySem.W.Fast.tw14096622296058837233 : True := trivial
theorem PySem.W.Fast.tw4508260417959855123 : True := trivial
theorem PySem.W.Fast.tw15488994479441020083 : True := trivial
theorem PySem.W.Fast.tw4793674521341954591 : True := trivial
theorem PySem.W.Fast.tw7834528679581292993 : True := trivial
theorem PySem.W.Fast.tw13122372515117577024 : True := trivial
theorem PySem.W.Fast.tw5127246881776995572 : True := trivial
theorem PySem.W.Fast.tw9197022226505319214 : True := trivial
theorem PySem.W.Fast.tw10440582932838977195 : True := trivial
theorem PySem.W.Fast.tw983757599173680077 : True := trivial
theorem PySem.W.Fast.tw12993381058241318941 : True := trivial
theorem PySem.W.Fast.tw753356755857712621 : True := trivial
theorem PySem.W.Fast.tw10835647685705940681 : True := trivial
theorem PySem.W.Fast.tw11438093077822321443 : True := trivial
theorem PySem.W.Fast.tw2846548647623628385 : True := trivial
theorem PySem.W.Fast.tw132879840659832808 : True := trivial
theorem PySem.W.Fast.tw17730753942795135613 : True := trivial
theorem PySem.W.Fast.tw1675116829413898581 : True := trivial
theorem PySem.W.Fast.tw6229000693318577528 : True := trivial
theorem PySem.W.Fast.tw514331915763628409 : True := trivial
theorem PySem.W.Fast.tw13536744328408048004 : True := trivial
theorem PySem.W.Fast.tw3250104026494459379 : True := trivial
theorem PySem.W.Fast.tw9068289709532822454 : True := trivial
theorem PySem.W.Fast.tw16315206378928066965 : True := trivial
theorem PySem.W.Fast.tw6268136715811269272 : True := trivial
theorem PySem.W.Fast.tw4676480367476185534 : True := trivial
theorem PySem.W.Fast.tw6110796972038776278 : True := trivial
theorem PySem.W.Fast.tw1297329620060168124 : True := trivial
theorem PySem.W.Fast.tw9899845793778543070 : True := trivial
theorem PySem.W.Fast.tw8651603132787839452 : True := trivial
theorem PySem.W.Fast.tw15220976240817598036 : True := trivial
theorem PySem.W.Fast.tw15029560056172358635 : True := trivial
theorem PySem.W.Fast.tw12797855661300598288 : True := trivial
theorem PySem.W.Fast.tw14828757198647495262 : True := trivial
theorem PySem.W.Fast.tw16858338002110075775 : True := trivial
theorem PySem.W.Fast.tw11892736540012555250 : True := trivial
theorem PySem.W.Fast.tw8212316837205860318 : True := trivial
theorem PySem.W.Fast.tw5569157271579812275 : True := trivial
theorem PySem.W.Fast.tw17386489654681386036 : True := trivial
theorem PySem.W.Fast.tw16034752882808441117 : True := trivial
theorem PySem.W.Fast.tw239592627826187929 : True := trivial
theorem PySem.W.Fast.tw5467264827852806653 : True := trivial
theorem PySem.W.Fast.tw1221487581298199581 : True := trivial
theorem PySem.W.Fast.tw3723081702187626255 : True := trivial
theorem PySem.W.Fast.tw13280222313789788227 : True := trivial
theorem PySem.W.Fast.tw7065803970635430029 : True := trivial
theorem PySem.W.Fast.tw9927951464924805985 : True := trivial
theorem PySem.W.Fast.tw8831690738057031984 : True := trivial
theorem PySem.W.Fast.tw16159254017460214816 : True := trivial
theorem PySem.W.Fast.tw3957412264006925343 : True := trivial
theorem PySem.W.Fast.tw4953479428358247541 : True := trivial
theorem PySem.W.Fast.tw4792035196594812586 : True := trivial
theorem PySem.W.Fast.tw2585733410782327352 : True := trivial
theorem PySem.W.Fast.tw2445638878955376958 : True := trivial
theorem PySem.W.Fast.tw15433685037389225920 : True := trivial
theorem PySem.W.Fast.tw5383814712922731874 : True := trivial
theorem PySem.W.Fast.tw8333005428048199301 : True := trivial
theorem PySem.W.Fast.tw5708640576784797480 : True := trivial
theorem PySem.W.Fast.tw16577030751057336703 : True := trivial
theorem PySem.W.Fast.tw1330697846830151827 : True := trivial
theorem PySem.W.Fast.tw7031009388457603382 : True := trivial
theorem PySem.W.Fast.tw7310497772470697348 : True := trivial
theorem PySem.W.Fast.tw4306664122507187113 : True := trivial
theorem PySem.W.Fast.tw16174392091634545404 : True := trivial
theorem PySem.W.Fast.tw3280585344998599308 : True := trivial
theorem PySem.W.Fast.tw17956454639826710105 : True := trivial
theorem PySem.W.Fast.tw4744367470666065160 : True := trivial
theorem PySem.W.Fast.tw10349275947658124351 : True := trivial
theorem PySem.W.Fast.tw7333644919624777318 : True := trivial
theorem PySem.W.Fast.tw9891271396776309847 : True := trivial
theorem PySem.W.Fast.tw4258583815690735175 : True := trivial
theorem PySem.W.Fast.tw11131001054906399000 : True := trivial
theorem PySem.W.Fast.tw9679639314373771278 : True := trivial
theorem PySem.W.Fast.tw5808510101320275546 : True := trivial
theorem PySem.W.Fast.tw24033582383930932 : True := trivial
theorem PySem.W.Fast.tw12183831454810910987 : True := trivial
theorem PySem.W.Fast.tw13265331681472712742 : True := trivial
theorem PySem.W.Fast.tw6983756809636214432 : True := trivial
theorem PySem.W.Fast.tw11995938143075017771 : True := trivial
theorem PySem.W.Fast.tw5513629164844111648 : True := trivial
theorem PySem.W.Fast.tw311637712007426738 : True := trivial
theorem PySem.W.Fast.tw11470559360462080879 : True := trivial
theorem PySem.W.Fast.tw16281794058040062597 : True := trivial
theorem PySem.W.Fast.tw14618820075044566544 : True := trivial
theorem PySem.W.Fast.tw3738919830031017897 : True := trivial
theorem PySem.W.Fast.tw3026803561323764618 : True := trivial
theorem PySem.W.Fast.tw14965810552921594733 : True := trivial
theorem PySem.W.Fast.tw18029938517498238147 : True := trivial
theorem PySem.W.Fast.tw11341831196180235761 : True := trivial
theorem PySem.W.Fast.tw14944292740468492404 : True := trivial
theorem PySem.W.Fast.tw12890647967226639286 : True := trivial
theorem PySem.W.Fast.tw146021387690255455 : True := trivial
theorem PySem.W.Fast.tw15031233863134285415 : True := trivial
theorem PySem.W.Fast.tw7639720320463052023 : True := trivial
theorem PySem.W.Fast.tw16615600539793015819 : True := trivial
theorem PySem.W.Fast.tw9605506841690341719 : True := trivial
theorem PySem.W.Fast.tw13192171564017916489 : True := trivial
theorem PySem.W.Fast.tw11532724904117064587 : True := trivial
theorem PySem.W.Fast.tw14870513690856122403 : True := trivial
theorem PySem.W.Fast.tw6780560229265033628 : True := trivial
theorem PySem.W.Fast.tw3714091118470997656 : True := trivial
theorem PySem.W.Fast.tw15198774687738682706 : True := trivial
theorem PySem.W.Fast.tw14919012107448364931 : True := trivial
theorem PySem.W.Fast.tw3111119932444496326 : True := trivial
theorem PySem.W.Fast.tw1531672529445588933 : True := trivial
theorem PySem.W.Fast.tw18218965984384604867 : True := trivial
theorem PySem.W.Fast.tw8049783231017038564 : True := trivial
theorem PySem.W.Fast.tw5252649942460511607 : True := trivial
theorem PySem.W.Fast.tw7596156825809054398 : True := trivial
theorem PySem.W.Fast.tw16083262971021162283 : True := trivial
theorem PySem.W.Fast.tw10646716602436433358 : True := trivial
theorem PySem.W.Fast.tw4850110102390331595 : True := trivial
theorem PySem.W.Fast.tw2268076884315306902 : True := trivial
theorem PySem.W.Fast.tw3538393412703126466 : True := trivial
theorem PySem.W.Fast.tw17291787384426474617 : True := trivial
theorem PySem.W.Fast.tw6531331746166777766 : True := trivial
theorem PySem.W.Fast.tw16662650460199198638 : True := trivial
theorem PySem.W.Fast.tw2519632558886664882 : True := trivial
theorem PySem.W.Fast.tw5070948343568387551 : True := trivial
theorem PySem.W.Fast.tw7156574759621260640 : True := trivial
theorem PySem.W.Fast.tw15270382667609858465 : True := trivial
theorem PySem.W.Fast.tw16973958019918948606 : True := trivial
theorem PySem.W.Fast.tw2981750480625868507 : True := trivial
theorem PySem.W.Fast.tw6976457823734709627 : True := trivial
theorem PySem.W.Fast.tw10120960637636436223 : True := trivial
theorem PySem.W.Fast.tw12672394588838771924 : True := trivial
theorem PySem.W.Fast.tw5537193224190156887 : True := trivial
theorem PySem.W.Fast.tw13439400715807908297 : True := trivial
theorem PySem.W.Fast.tw15259768936142079343 : True := trivial
theorem PySem.W.Fast.tw5521180196658586964 : True := trivial
theorem PySem.W.Fast.tw5679694807731193006 : True := trivial
theorem PySem.W.Fast.tw12028238408033518605 : True := trivial
theorem PySem.W.Fast.tw12458101802930658841 : True := trivial
theorem PySem.W.Fast.tw5604644056712510610 : True := trivial
theorem PySem.W.Fast.tw5164133165656394784 : True := trivial
theorem PySem.W.Fast.tw9247486798579634414 : True := trivial
theorem PySem.W.Fast.tw16083955644944073347 : True := trivial
theorem PySem.W.Fast.tw3415745430650777944 : True := trivial
theorem PySem.W.Fast.tw1038451405718239912 : True := trivial
theorem PySem.W.Fast.tw1361325371828953107 : True := trivial
theorem PySem.W.Fast.tw17347383767785285839 : True := trivial
theorem PySem.W.Fast.tw4586284535486236574 : True := trivial
theorem PySem.W.Fast.tw11119081431756740660 : True := trivial
theorem PySem.W.Fast.tw14384556562228932635 : True := trivial
theorem PySem.W.Fast.tw72194315474216628 : True := trivial
theorem PySem.W.Fast.tw11803342612221740832 : True := trivial
theorem PySem.W.Fast.tw4372965941827964930 : True := trivial
theorem PySem.W.Fast.tw6558801123470586667 : True := trivial
theorem PySem.W.Fast.tw11275051745498054680 : True := trivial
theorem PySem.W.Fast.tw2656562103859511690 : True := trivial
theorem PySem.W.Fast.tw3629731755595141185 : True := trivial
theorem PySem.W.Fast.tw6167141462334283851 : True := trivial
theorem PySem.W.Fast.tw14930930093258381025 : True := trivial
theorem PySem.W.Fast.tw3806220986153498928 : True := trivial
theorem PySem.W.Fast.tw6603441835030082315 : True := trivial
theorem PySem.W.Fast.tw1614903875838662209 : True := trivial
theorem PySem.W.Fast.tw9539949358758767849 : True := trivial
theorem PySem.W.Fast.tw2162634845073552102 : True := trivial
theorem PySem.W.Fast.tw6516727976279966479 : True := trivial
theorem PySem.W.Fast.tw5124502113829302435 : True := trivial
theorem PySem.W.Fast.tw2610633602340771451 : True := trivial
theorem PySem.W.Fast.tw1225957986069764844 : True := trivial
theorem PySem.W.Fast.tw7314235251061274971 : True := trivial
theorem PySem.W.Fast.tw8785118990967597122 : True := trivial
theorem PySem.W.Fast.tw14674084006459638507 : True := trivial
theorem PySem.W.Fast.tw16616644738664207206 : True := trivial
theorem PySem.W.Fast.tw3496080686417055321 : True := trivial
theorem PySem.W.Fast.tw11159914174826924850 : True := trivial
theorem PySem.W.Fast.tw605970618900996600 : True := trivial
theorem PySem.W.Fast.tw3928230741220912146 : True := trivial
theorem PySem.W.Fast.tw1374250162926314249 : True := trivial
theorem PySem.W.Fast.tw12128764539723867163 : True := trivial
theorem PySem.W.Fast.tw2889527468933183 : True := trivial
theorem PySem.W.Fast.tw13550248170639467385 : True := trivial
theorem PySem.W.Fast.tw11035666452810218758 : True := trivial
theorem PySem.W.Fast.tw13308068316088533612 : True := trivial
theorem PySem.W.Fast.tw12097288679981390414 : True := trivial
theorem PySem.W.Fast.tw1561115877265486459 : True := trivial
theorem PySem.W.Fast.tw9125677062030742255 : True := trivial
theorem PySem.W.Fast.tw11559049840361056176 : True := trivial
theorem PySem.W.Fast.tw6488994482953297063 : True := trivial
theorem PySem.W.Fast.tw3963670801177082577 : True := trivial
theorem PySem.W.Fast.tw7546863883460239732 : True := trivial
theorem PySem.W.Fast.tw10246200769355227956 : True := trivial
theorem PySem.W.Fast.tw13567287929484356363 : True := trivial
theorem PySem.W.Fast.tw13637254829140177154 : True := trivial
theorem PySem.W.Fast.tw6340530124875882452 : True := trivial
theorem PySem.W.Fast.tw14003913516603115754 : True := trivial
theorem PySem.W.Fast.tw1135231335787692553 : True := trivial
theorem PySem.W.Fast.tw1783024380765442484 : True := trivial
theorem PySem.W.Fast.tw9020891085072151491 : True := trivial
theorem PySem.W.Fast.tw3074731959629092498 : True := trivial
theorem PySem.W.Fast.tw11268548932325121199 : True := trivial
theorem PySem.W.Fast.tw18171694076932257939 : True := trivial
theorem PySem.W.Fast.tw7645998199794988655 : True := trivial
theorem PySem.W.Fast.tw5475931592367221923 : True := trivial
theorem PySem.W.Fast.tw15188559130510249464 : True := trivial
theorem PySem.W.Fast.tw11754454139416845462 : True := trivial
theorem PySem.W.Fast.tw12687599587267709201 : True := trivial
theorem PySem.W.Fast.tw17966794655610705233 : True := trivial
theorem PySem.W.Fast.tw3000739511774306068 : True := trivial
theorem PySem.W.Fast.tw6516607661269340936 : True := trivial
theorem PySem.W.Fast.tw6333637631581324999 : True := trivial
theorem PySem.W.Fast.tw3580019641760533195 : True := trivial
theorem PySem.W.Fast.tw14585180388296036374 : True := trivial
theorem PySem.W.Fast.tw315001742848712990 : True := trivial
theorem PySem.W.Fast.tw7985860462452851905 : True := trivial
theorem PySem.W.Fast.tw18360932896211459212 : True := trivial
theorem PySem.W.Fast.tw12084586358465014180 : True := trivial
theorem PySem.W.Fast.tw2594646003729333491 : True := trivial
theorem PySem.W.Fast.tw11015433798819479072 : True := trivial
theorem PySem.W.Fast.tw2964911799482105937 : True := trivial
theorem PySem.W.Fast.tw17893748998970466801 : True := trivial
theorem PySem.W.Fast.tw13242501044711183341 : True := trivial
theorem PySem.W.Fast.tw17750307850334655324 : True := trivial
theorem PySem.W.Fast.tw455683197027550085 : True := trivial
theorem PySem.W.Fast.tw4314255891577500229 : True := trivial
theorem PySem.W.Fast.tw9068713991937876072 : True := trivial
theorem PySem.W.Fast.tw17237399087928196712 : True := trivial
theorem PySem.W.Fast.tw4102351432123388504 : True := trivial
theorem PySem.W.Fast.tw7192756675653709975 : True := trivial
theorem PySem.W.Fast.tw16949426987705273679 : True := trivial
theorem PySem.W.Fast.tw279401172666171868 : True := trivial
theorem PySem.W.Fast.tw2175720282238753265 : True := trivial
theorem PySem.W.Fast.tw17145598988273093083 : True := trivial
theorem PySem.W.Fast.tw646072334014648067 : True := trivial
theorem PySem.W.Fast.tw16148826225683112846 : True := trivial
theorem PySem.W.Fast.tw16148708839557978185 : True := trivial
theorem PySem.W.Fast.tw7316962366044212856 : True := trivial
theorem PySem.W.Fast.tw506212028174084537 : True := trivial
theorem PySem.W.Fast.tw3322853542875820977 : True := trivial
theorem PySem.W.Fast.tw5235306248102753536 : True := trivial
theorem PySem.W.Fast.tw6093380566930515049 : True := trivial
theorem PySem.W.Fast.tw5696706079600072125 : True := trivial
theorem PySem.W.Fast.tw3812699839653264991 : True := trivial
theorem PySem.W.Fast.tw8303853774129361194 : True := trivial
theorem PySem.W.Fast.tw5579536743706858930 : True := trivial
theorem PySem.W.Fast.tw4260630968143260684 : True := trivial
theorem PySem.W.Fast.tw2752611068796465691 : True := trivial
theorem PySem.W.Fast.tw8778511113116837253 : True := trivial
theorem PySem.W.Fast.tw7176790745777248765 : True := trivial
theorem PySem.W.Fast.tw4050116981974357575 : True := trivial
theorem PySem.W.Fast.tw14304756852559503404 : True := trivial
theorem PySem.W.Fast.tw12486866631639279942 : True := trivial
theorem PySem.W.Fast.tw9764993422793738648 : True := trivial
theorem PySem.W.Fast.tw3589500836559250844 : True := trivial
theorem PySem.W.Fast.tw5558069605915713010 : True := trivial
theorem PySem.W.Fast.tw3804269024784483107 : True := trivial
theorem PySem.W.Fast.tw1319607541836885519 : True := trivial
theorem PySem.W.Fast.tw5356896639713490957 : True := trivial
theorem PySem.W.Fast.tw1959311234090433351 : True := trivial
theorem PySem.W.Fast.tw11381790964164868422 : True := trivial
theorem PySem.W.Fast.tw3999570459728887948 : True := trivial
theorem PySem.W.Fast.tw15281275493301275193 : True := trivial
theorem PySem.W.Fast.tw13376927186753090275 : True := trivial
theorem PySem.W.Fast.tw6422583887845828082 : True := trivial
theorem PySem.W.Fast.tw3113188202370109008 : True := trivial
theorem PySem.W.Fast.tw10390021527893494958 : True := trivial
theorem PySem.W.Fast.tw4620301010370947591 : True := trivial
theorem PySem.W.Fast.tw7304861150869533064 : True := trivial
theorem PySem.W.Fast.tw11068854898730174048 : True := trivial
theorem PySem.W.Fast.tw1327048750517898637 : True := trivial
theorem PySem.W.Fast.tw2123447558353995966 : True := trivial
theorem PySem.W.Fast.tw7736560417413903234 : True := trivial
theorem PySem.W.Fast.tw12415353666892285689 : True := trivial
theorem PySem.W.Fast.tw14330785892940037371 : True := trivial
theorem PySem.W.Fast.tw5887823058772061317 : True := trivial
theorem PySem.W.Fast.tw12549445788291391595 : True := trivial
theorem PySem.W.Fast.tw5447187292560542728 : True := trivial
theorem PySem.W.Fast.tw15275124695567081969 : True := trivial
theorem PySem.W.Fast.tw12497736962970114777 : True := trivial
theorem PySem.W.Fast.tw15516020417439682075 : True := trivial
theorem PySem.W.Fast.tw8606366884184835570 : True := trivial
theorem PySem.W.Fast.tw6840466825876288033 : True := trivial
theorem PySem.W.Fast.tw6850296449746821968 : True := trivial
theorem PySem.W.Fast.tw6435790332881394673 : True := trivial
theorem PySem.W.Fast.tw18421134230928144594 : True := trivial
theorem PySem.W.Fast.tw11693469213831812998 : True := trivial
theorem PySem.W.Fast.tw12967805885463933206 : True := trivial
theorem PySem.W.Fast.tw12271897691165896963 : True := trivial
theorem PySem.W.Fast.tw11861840148442305448 : True := trivial
theorem PySem.W.Fast.tw8615564892697703435 : True := trivial
theorem PySem.W.Fast.tw9080956263844053714 : True := trivial
theorem PySem.W.Fast.tw5787248673094998165 : True := trivial
theorem PySem.W.Fast.tw17237030454753736264 : True := trivial
theorem PySem.W.Fast.tw14408329192427413228 : True := trivial
theorem PySem.W.Fast.tw13874951199764645722 : True := trivial
theorem PySem.W.Fast.tw11187434974428671896 : True := trivial
theorem PySem.W.Fast.tw15188710329155894219 : True := trivial
theorem PySem.W.Fast.tw17917642916612772201 : True := trivial
theorem PySem.W.Fast.tw8225186342981656216 : True := trivial
theorem PySem.W.Fast.tw15821216297190004024 : True := trivial
theorem PySem.W.Fast.tw2555173516783335851 : True := trivial
theorem PySem.W.Fast.tw15839049356198598936 : True := trivial
theorem PySem.W.Fast.tw2720417624326063279 : True := trivial
theorem PySem.W.Fast.tw18358540710582025842 : True := trivial
theorem PySem.W.Fast.tw15890413893983212950 : True := trivial
theorem PySem.W.Fast.tw5385700292519218520 : True := trivial
theorem PySem.W.Fast.tw15002794349711747040 : True := trivial
theorem PySem.W.Fast.tw392166466845263566 : True := trivial
theorem PySem.W.Fast.tw11148937289771274734 : True := trivial
theorem PySem.W.Fast.tw15132769366761381406 : True := trivial
theorem PySem.W.Fast.tw15389359401242410261 : True := trivial
theorem PySem.W.Fast.tw536839687276180719 : True := trivial
theorem PySem.W.Fast.tw8427418062706850045 : True := trivial
theorem PySem.W.Fast.tw2100183537861711469 : True := trivial
theorem PySem.W.Fast.tw4335166618765111059 : True := trivial
theorem PySem.W.Fast.tw13245046459342550218 : True := trivial
theorem PySem.W.Fast.tw6647175415466300468 : True := trivial
theorem PySem.W.Fast.tw9191268970619401692 : True := trivial
theorem PySem.W.Fast.tw8151781093440831322 : True := trivial
theorem PySem.W.Fast.tw9102741965764108737 : True := trivial
theorem PySem.W.Fast.tw1887146686964467235 : True := trivial
theorem PySem.W.Fast.tw14039374202238614619 : True := trivial
theorem PySem.W.Fast.tw12258102099030869882 : True := trivial
theorem PySem.W.Fast.tw12881399048245694037 : True := trivial
theorem PySem.W.Fast.tw15655210660069665900 : True := trivial
theorem PySem.W.Fast.tw324519734196014010 : True := trivial
theorem PySem.W.Fast.tw14455743435368891814 : True := trivial
theorem PySem.W.Fast.tw13062253342104757673 : True := trivial
theorem PySem.W.Fast.tw2041605223305342032 : True := trivial
theorem PySem.W.Fast.tw15786263263986450471 : True := trivial
theorem PySem.W.Fast.tw12532577396985136312 : True := trivial
theorem PySem.W.Fast.tw15229974255188575110 : True := trivial
theorem PySem.W.Fast.tw4710664863523918757 : True := trivial
theorem PySem.W.Fast.tw6189921544301888022 : True := trivial
theorem PySem.W.Fast.tw4413394975641796209 : True := trivial
theorem PySem.W.Fast.tw12551315030079750610 : True := trivial
theorem PySem.W.Fast.tw17800731788105090918 : True := trivial
theorem PySem.W.Fast.tw1186169741142257955 : True := trivial
theorem PySem.W.Fast.tw7888666241440325241 : True := trivial
theorem PySem.W.Fast.tw6104096199590863034 : True := trivial
theorem PySem.W.Fast.tw11655943571256795695 : True := trivial
theorem PySem.W.Fast.tw18017873217888473711 : True := trivial
theorem PySem.W.Fast.tw13744850385320424853 : True := trivial
theorem PySem.W.Fast.tw667979187207348655 : True := trivial
theorem PySem.W.Fast.tw12808312367581301427 : True := trivial
theorem PySem.W.Fast.tw14408718725406132957 : True := trivial
theorem PySem.W.Fast.tw15045713757840398361 : True := trivial
theorem PySem.W.Fast.tw6550698159504593774 : True := trivial
theorem PySem.W.Fast.tw3178723571223653811 : True := trivial
theorem PySem.W.Fast.tw13726434966425689832 : True := trivial
theorem PySem.W.Fast.tw6110112596061337748 : True := trivial
theorem PySem.W.Fast.tw18117170840009181176 : True := trivial
theorem PySem.W.Fast.tw18257758361873989520 : True := trivial
theorem PySem.W.Fast.tw10618569344509357255 : True := trivial
theorem PySem.W.Fast.tw15033415539047636462 : True := trivial
theorem PySem.W.Fast.tw14068468033474448897 : True := trivial
theorem PySem.W.Fast.tw2883609037608569299 : True := trivial
theorem PySem.W.Fast.tw3455703966572249439 : True := trivial
theorem PySem.W.Fast.tw11524157200233641268 : True := trivial
theorem PySem.W.Fast.tw8384058096088449672 : True := trivial
theorem PySem.W.Fast.tw12159970237434746150 : True := trivial
theorem PySem.W.Fast.tw3553160593859114813 : True := trivial
theorem PySem.W.Fast.tw15414547673679925224 : True := trivial
theorem PySem.W.Fast.tw3145806707578038396 : True := trivial
theorem PySem.W.Fast.tw11948406970847165132 : True := trivial
theorem PySem.W.Fast.tw10457672329986697407 : True := trivial
theorem PySem.W.Fast.tw17298807280061273287 : True := trivial
theorem PySem.W.Fast.tw15252897803594647795 : True := trivial
theorem PySem.W.Fast.tw10927778998685183553 : True := trivial
theorem PySem.W.Fast.tw13968626519059080225 : True := trivial
theorem PySem.W.Fast.tw4138827935518043329 : True := trivial
theorem PySem.W.Fast.tw13740889641658889878 : True := trivial
theorem PySem.W.Fast.tw4207425150963619525 : True := trivial
theorem PySem.W.Fast.tw10638625608689625847 : True := trivial
theorem PySem.W.Fast.tw4612841767612998103 : True := trivial
theorem PySem.W.Fast.tw8115507150855418257 : True := trivial
theorem PySem.W.Fast.tw2064451608538595521 : True := trivial
theorem PySem.W.Fast.tw13456779742296262354 : True := trivial
theorem PySem.W.Fast.tw9343204701156684654 : True := trivial
theorem PySem.W.Fast.tw3180908685124432939 : True := trivial
theorem PySem.W.Fast.tw7344335148152833368 : True := trivial
theorem PySem.W.Fast.tw491140773712995103 : True := trivial
theorem PySem.W.Fast.tw12420934854078389307 : True := trivial
theorem PySem.W.Fast.tw18420328598619254355 : True := trivial
theorem PySem.W.Fast.tw12816804585533362584 : True := trivial
theorem PySem.W.Fast.tw4936650363315680218 : True := trivial
theorem PySem.W.Fast.tw11726732606129033486 : True := trivial
theorem PySem.W.Fast.tw11143712435596674322 : True := trivial
theorem PySem.W.Fast.tw10019239796977350703 : True := trivial
theorem PySem.W.Fast.tw6377864643794346817 : True := trivial
theorem PySem.W.Fast.tw4377713577042523307 : True := trivial
theorem PySem.W.Fast.tw6575325853479784028 : True := trivial
theorem PySem.W.Fast.tw9271385614957126413 : True := trivial
theorem PySem.W.Fast.tw11448622452817128266 : True := trivial
theorem PySem.W.Fast.tw15466832346050249500 : True := trivial
theorem PySem.W.Fast.tw7987426765562875179 : True := trivial
theorem PySem.W.Fast.tw15498186082114632549 : True := trivial
theorem PySem.W.Fast.tw17718131712595925533 : True := trivial
theorem PySem.W.Fast.tw4242002434896663076 : True := trivial
theorem PySem.W.Fast.tw1788881314220933123 : True := trivial
theorem PySem.W.Fast.tw11812095290304443523 : True := trivial
theorem PySem.W.Fast.tw12780798888879563143 : True := trivial
theorem PySem.W.Fast.tw1781926147197418847 : True := trivial
theorem PySem.W.Fast.tw246703046227638406 : True := trivial
theorem PySem.W.Fast.tw11000947200299769557 : True := trivial
theorem PySem.W.Fast.tw3122558500381873327 : True := trivial
theorem PySem.W.Fast.tw4359527995056075064 : True := trivial
theorem PySem.W.Fast.tw10785035683312145646 : True := trivial
theorem PySem.W.Fast.tw14270740966375556738 : True := trivial
theorem PySem.W.Fast.tw11623740294628227496 : True := trivial
theorem PySem.W.Fast.tw6379968071076653879 : True := trivial
theorem PySem.W.Fast.tw14842437904752551193 : True := trivial
theorem PySem.W.Fast.tw9108635719343107029 : True := trivial
theorem PySem.W.Fast.tw5110376443233272162 : True := trivial
theorem PySem.W.Fast.tw3855901126129323550 : True := trivial
theorem PySem.W.Fast.tw402192088508412219 : True := trivial
theorem PySem.W.Fast.tw15977621509217421894 : True := trivial
theorem PySem.W.Fast.tw7119606568391051096 : True := trivial
theorem PySem.W.Fast.tw11905063692571440414 : True := trivial
theorem PySem.W.Fast.tw4344554296453923393 : True := trivial
theorem PySem.W.Fast.tw12160615742910002651 : True := trivial
theorem PySem.W.Fast.tw11662906643679525246 : True := trivial
theorem PySem.W.Fast.tw17012070317476314522 : True := trivial
theorem PySem.W.Fast.tw16780779891315599345 : True := trivial
theorem PySem.W.Fast.tw17456884037547644330 : True := trivial
theorem PySem.W.Fast.tw934455605509215526 : True := trivial
theorem PySem.W.Fast.tw13900236667345367970 : True := trivial
theorem PySem.W.Fast.tw7444912351541438734 : True := trivial
theorem PySem.W.Fast.tw2509901021623773516 : True := trivial
theorem PySem.W.Fast.tw15547486495325399118 : True := trivial
theorem PySem.W.Fast.tw10580898631463273684 : True := trivial
theorem PySem.W.Fast.tw13065130845928585020 : True := trivial
theorem PySem.W.Fast.tw112969107457717573 : True := trivial
theorem PySem.W.Fast.tw5178307325563074058 : True := trivial
theorem PySem.W.Fast.tw11736100989453733328 : True := trivial
theorem PySem.W.Fast.tw12215730693953586577 : True := trivial
theorem PySem.W.Fast.tw7279485371822899765 : True := trivial
theorem PySem.W.Fast.tw6465039707206524882 : True := trivial
theorem PySem.W.Fast.tw2411194667733099554 : True := trivial
theorem PySem.W.Fast.tw14099037216221800273 : True := trivial
theorem PySem.W.Fast.tw5645623733365627227 : True := trivial
theorem PySem.W.Fast.tw15712471258339273978 : True := trivial
theorem PySem.W.Fast.tw9081632847589277149 : True := trivial
theorem PySem.W.Fast.tw3560090332196479428 : True := trivial
theorem PySem.W.Fast.tw3533280786443075163 : True := trivial
theorem PySem.W.Fast.tw8205170538234219585 : True := trivial
theorem PySem.W.Fast.tw9044999039883784396 : True := trivial
theorem PySem.W.Fast.tw5173647878424340067 : True := trivial
theorem PySem.W.Fast.tw9360734884393175388 : True := trivial
theorem PySem.W.Fast.tw2081167802061282169 : True := trivial
theorem PySem.W.Fast.tw6436018195272434631 : True := trivial
theorem PySem.W.Fast.tw10698812615187093499 : True := trivial
theorem PySem.W.Fast.tw16550421575056234954 : True := trivial
theorem PySem.W.Fast.tw6634168236880122680 : True := trivial
theorem PySem.W.Fast.tw8800675636514322927 : True := trivial
theorem PySem.W.Fast.tw12156871075443035699 : True := trivial
theorem PySem.W.Fast.tw2176991394298206269 : True := trivial
theorem PySem.W.Fast.tw13116458578400920429 : True := trivial
theorem PySem.W.Fast.tw3433765053081241544 : True := trivial
theorem PySem.W.Fast.tw13989265104793125186 : True := trivial
theorem PySem.W.Fast.tw4675275165392884920 : True := trivial
theorem PySem.W.Fast.tw2551818006912864836 : True := trivial
theorem PySem.W.Fast.tw2757396774215066360 : True := trivial
theorem PySem.W.Fast.tw7016309515995146595 : True := trivial
theorem PySem.W.Fast.tw2459500860204318780 : True := trivial
theorem PySem.W.Fast.tw9362349252580751236 : True := trivial
theorem PySem.W.Fast.tw15704631567257895822 : True := trivial
theorem PySem.W.Fast.tw15643360721178259161 : True := trivial
theorem PySem.W.Fast.tw4769810671284316652 : True := trivial
theorem PySem.W.Fast.tw4475956120216721642 : True := trivial
theorem PySem.W.Fast.tw6512467810315225803 : True := trivial
theorem PySem.W.Fast.tw11253695995798301504 : True := trivial
theorem PySem.W.Fast.tw16831388156400849189 : True := trivial
theorem PySem.W.Fast.tw751975678484582449 : True := trivial
theorem PySem.W.Fast.tw9447914378211945069 : True := trivial
theorem PySem.W.Fast.tw15051162994698767262 : True := trivial
theorem PySem.W.Fast.tw5429567614557912837 : True := trivial
theorem PySem.W.Fast.tw10876101455135750336 : True := trivial
theorem PySem.W.Fast.tw7447808920894141420 : True := trivial
theorem PySem.W.Fast.tw49569808563787811 : True := trivial
theorem PySem.W.Fast.tw654162205608894231 : True := trivial
theorem PySem.W.Fast.tw9860144634813065891 : True := trivial
theorem PySem.W.Fast.tw10035314457660312310 : True := trivial
theorem PySem.W.Fast.tw4195684485018052869 : True := trivial
theorem PySem.W.Fast.tw8333371065292470576 : True := trivial
theorem PySem.W.Fast.tw16985069873916069438 : True := trivial
theorem PySem.W.Fast.tw3795656894221671955 : True := trivial
theorem PySem.W.Fast.tw4662851200967372410 : True := trivial
theorem PySem.W.Fast.tw15402510313884385978 : True := trivial
theorem PySem.W.Fast.tw3089908966641725978 : True := trivial
theorem PySem.W.Fast.tw18370044101498573064 : True := trivial
theorem PySem.W.Fast.tw6838728254902904731 : True := trivial
theorem PySem.W.Fast.tw4508608464181363205 : True := trivial
theorem PySem.W.Fast.tw85013967194910898 : True := trivial
theorem PySem.W.Fast.tw8083566015024820690 : True := trivial
theorem PySem.W.Fast.tw7152052590274400490 : True := trivial
theorem PySem.W.Fast.tw5414886962907231421 : True := trivial
theorem PySem.W.Fast.tw1755952344986789195 : True := trivial
theorem PySem.W.Fast.tw1835790997960867622 : True := trivial
theorem PySem.W.Fast.tw16462786283319350583 : True := trivial
theorem PySem.W.Fast.tw6832812114374600836 : True := trivial
theorem PySem.W.Fast.tw798243414152285428 : True := trivial
theorem PySem.W.Fast.tw2283625520916659507 : True := trivial
theorem PySem.W.Fast.tw12523587336026651944 : True := trivial
theorem PySem.W.Fast.tw17074788407143655777 : True := trivial
theorem PySem.W.Fast.tw14190386346536870345 : True := trivial
theorem PySem.W.Fast.tw2003995519448553029 : True := trivial
theorem PySem.W.Fast.tw4562543013171514067 : True := trivial
theorem PySem.W.Fast.tw10889605918052021684 : True := trivial
theorem PySem.W.Fast.tw2591700170820462120 : True := trivial
theorem PySem.W.Fast.tw13552971664650471618 : True := trivial
theorem PySem.W.Fast.tw14177220969986113703 : True := trivial
theorem PySem.W.Fast.tw6097224806264655035 : True := trivial
theorem PySem.W.Fast.tw7127456968133853332 : True := trivial
theorem PySem.W.Fast.tw10869511591159780231 : True := trivial
theorem PySem.W.Fast.tw10387732950198976764 : True := trivial
theorem PySem.W.Fast.tw16641436833368044603 : True := trivial
theorem PySem.W.Fast.tw17433049394234556962 : True := trivial
theorem PySem.W.Fast.tw8250272585194517608 : True := trivial
theorem PySem.W.Fast.tw3561880804663938965 : True := trivial
theorem PySem.W.Fast.tw8316423176189199610 : True := trivial
theorem PySem.W.Fast.tw4033875481449535547 : True := trivial
theorem PySem.W.Fast.tw2619530459615907237 : True := trivial
theorem PySem.W.Fast.tw7842068105316288492 : True := trivial
theorem PySem.W.Fast.tw16620896414648229147 : True := trivial
theorem PySem.W.Fast.tw5805463570947297160 : True := trivial
theorem PySem.W.Fast.tw12349096241910576347 : True := trivial
theorem PySem.W.Fast.tw18402224650256017953 : True := trivial
theorem PySem.W.Fast.tw16479275226209222861 : True := trivial
theorem PySem.W.Fast.tw5039758727927070111 : True := trivial
theorem PySem.W.Fast.tw15839698687832610088 : True := trivial
theorem PySem.W.Fast.tw4486890748080250754 : True := trivial
theorem PySem.W.Fast.tw6602723286497279713 : True := trivial
theorem PySem.W.Fast.tw12506627151954498700 : True := trivial
theorem PySem.W.Fast.tw13732622769314370350 : True := trivial
theorem PySem.W.Fast.tw12890404547373485488 : True := trivial
theorem PySem.W.Fast.tw2287952873800644503 : True := trivial
theorem PySem.W.Fast.tw17512965810300077201 : True := trivial
theorem PySem.W.Fast.tw7440642844191834910 : True := trivial
theorem PySem.W.Fast.tw963859130614184569 : True := trivial
theorem PySem.W.Fast.tw3467264523944525194 : True := trivial
theorem PySem.W.Fast.tw10198599776749534816 : True := trivial
theorem PySem.W.Fast.tw2257956193153466433 : True := trivial
theorem PySem.W.Fast.tw2657532551866164918 : True := trivial
theorem PySem.W.Fast.tw8875151219155699848 : True := trivial
theorem PySem.W.Fast.tw15066324415846407385 : True := trivial
theorem PySem.W.Fast.tw14236461796503786216 : True := trivial
theorem PySem.W.Fast.tw3452499565678685231 : True := trivial
theorem PySem.W.Fast.tw9674947938826457413 : True := trivial
theorem PySem.W.Fast.tw5730923786549068724 : True := trivial
theorem PySem.W.Fast.tw17665527829196918748 : True := trivial
theorem PySem.W.Fast.tw5430290063019312901 : True := trivial
theorem PySem.W.Fast.tw11294490894075555648 : True := trivial
theorem PySem.W.Fast.tw7233995546541265044 : True := trivial
theorem PySem.W.Fast.tw18337191681910159996 : True := trivial
theorem PySem.W.Fast.tw984889356312063009 : True := trivial
theorem PySem.W.Fast.tw12053158597100471028 : True := trivial
theorem PySem.W.Fast.tw3382497854774786624 : True := trivial
theorem PySem.W.Fast.tw3965066914648306753 : True := trivial
theorem PySem.W.Fast.tw2281124908610816680 : True := trivial
theorem PySem.W.Fast.tw9320591858833118116 : True := trivial
theorem PySem.W.Fast.tw10069563576110697749 : True := trivial
theorem PySem.W.Fast.tw12083057953528416652 : True := trivial
theorem PySem.W.Fast.tw8160204160825249212 : True := trivial
theorem PySem.W.Fast.tw1766199945580467938 : True := trivial
theorem PySem.W.Fast.tw11536807258366751635 : True := trivial
theorem PySem.W.Fast.tw12944937823517403894 : True := trivial
theorem PySem.W.Fast.tw5041053754090329040 : True := trivial
theorem PySem.W.Fast.tw3382352274397503586 : True := trivial
theorem PySem.W.Fast.tw13753795711419128332 : True := trivial
theorem PySem.W.Fast.tw9636241285276280595 : True := trivial
theorem PySem.W.Fast.tw8167554853257996533 : True := trivial
theorem PySem.W.Fast.tw12282020344050194503 : True := trivial
theorem PySem.W.Fast.tw597551810047831451 : True := trivial
theorem PySem.W.Fast.tw1288644769310040766 : True := trivial
theorem PySem.W.Fast.tw14799600421184564971 : True := trivial
theorem PySem.W.Fast.tw8678871399568648017 : True := trivial
theorem PySem.W.Fast.tw2720968535569141805 : True := trivial
theorem PySem.W.Fast.tw18209132034218567145 : True := trivial
theorem PySem.W.Fast.tw11073446533507759648 : True := trivial
theorem PySem.W.Fast.tw18435684275422186712 : True := trivial
theorem PySem.W.Fast.tw1637558579333151580 : True := trivial
theorem PySem.W.Fast.tw6586539178486203070 : True := trivial
theorem PySem.W.Fast.tw12815987513093966263 : True := trivial
theorem PySem.W.Fast.tw17320503004937409568 : True := trivial
theorem PySem.W.Fast.tw9764016240003216587 : True := trivial
theorem PySem.W.Fast.tw10336532966672801230 : True := trivial
theorem PySem.W.Fast.tw3660771300742132313 : True := trivial
theorem PySem.W.Fast.tw6730076047540480335 : True := trivial
theorem PySem.W.Fast.tw12334908241363668354 : True := trivial
theorem PySem.W.Fast.tw10146494162777521186 : True := trivial
theorem PySem.W.Fast.tw4709858122603116806 : True := trivial
theorem PySem.W.Fast.tw11188995310185361930 : True := trivial
theorem PySem.W.Fast.tw6873077706426550750 : True := trivial
theorem PySem.W.Fast.tw2273891677048559217 : True := trivial
theorem PySem.W.Fast.tw7080363380882769204 : True := trivial
theorem PySem.W.Fast.tw10694746697810923460 : True := trivial
theorem PySem.W.Fast.tw10935480710356824149 : True := trivial
theorem PySem.W.Fast.tw15210061981634561789 : True := trivial
open PySem PySem.W PyProof.Rows
set_option maxRecDepth 100000 in
set_option maxHeartbeats 0 in
theorem PySem.Challenge.cw_heightfractions_k53_whole_measures_are_p_holds : PySem.Challenge.rw_heightfractions_k53_whole_measures_are_p.Holds := by
  w_on; o_law; k_head; (case hw => w_witness2)
  k_fill
  refine K53.walk (l := PySem.Challenge.rw_heightfractions_k53_whole_measures_are_p) rfl rfl (fun w h Y => PySem.W.kIn_of Y) ?F
  case F =>
    intro w mg fa h KX G hmg
    refine' K53.all_mk KX G hmg ?a_is_whole ?l_is_whole ?e_is_whole ?k_is_whole ?a_shared_part ?l_shared_part ?e_shared_part ?k_shared_part ?a_fraction ?l_fraction ?e_fraction ?k_fraction ?a_plus ?l_plus ?e_plus ?k_plus ?a_times ?l_times ?e_times ?k_times ?a_moment_table ?l_moment_table ?e_moment_table ?k_moment_table ?d_moment_table ?a_shared_bottom ?l_shared_bottom ?e_shared_bottom ?k_shared_bottom ?a_folded ?l_folded ?e_folded ?k_folded ?a_whole_measure ?l_whole_measure ?e_whole_measure ?k_whole_measure ?a_measure ?l_measure ?e_measure ?k_measure ?a_weights_of ?l_weights_of ?e_weights_of ?k_weights_of ?a_height_of ?l_height_of ?e_height_of ?k_height_of ?a_check_reach ?l_check_reach ?e_check_reach ?k_check_reach ?a_one_step_on ?l_one_step_on ?e_one_step_on ?k_one_step_on ?a_sum_stepped ?l_sum_stepped ?e_sum_stepped ?k_sum_stepped ?d_sum_stepped ?a_moments ?l_moments ?e_moments ?k_moments ?a__law_cell_at ?l__law_cell_at ?e__law_cell_at ?k__law_cell_at ?a__law_stir ?l__law_stir ?e__law_stir ?k__law_stir ?a__law_drawn ?l__law_drawn ?e__law_drawn ?k__law_drawn ?a__law_whole ?l__law_whole ?e__law_whole ?k__law_whole ?a__law_divisor ?l__law_divisor ?e__law_divisor ?k__law_divisor ?a__law_low ?l__law_low ?e__law_low ?k__law_low ?a__law_add ?l__law_add ?e__law_add ?k__law_add ?a__law_take ?l__law_take ?e__law_take ?k__law_take ?a__law_mul ?l__law_mul ?e__law_mul ?k__law_mul ?a__law_is_fraction ?l__law_is_fraction ?e__law_is_fraction ?k__law_is_fraction ?a__law_weight_by ?l__law_weight_by ?e__law_weight_by ?k__law_weight_by ?a__law_weights_by ?l__law_weights_by ?e__law_weights_by ?k__law_weights_by ?a__law_moments_by ?l__law_moments_by ?e__law_moments_by ?k__law_moments_by ?a__law_measure_by ?l__law_measure_by ?e__law_measure_by ?k__law_measure_by ?a__law_row_by ?l__law_row_by ?e__law_row_by ?k__law_row_by ?a__law_table_of ?l__law_table_of ?e__law_table_of ?k__law_table_of ?a__law_product ?l__law_product ?e__law_product ?k__law_product ?a_law ?l_law ?e_law ?k_law ?a_NOUGHT ?a_NoFraction ?a_NoWeights ?a_ONE ?a_TooFar ?n_abs ?n_bool ?n_int ?n_isinstance ?n_len ?n_list ?n_min ?n_range ?n_tuple ?a_MOST_LEVELS ?x_nought ?x_one ?x_nw ?x_tf ?x_nf
    (case a_is_whole => k_is)
    (case l_is_whole => k_is)
    (case e_is_whole => k_is)
    (case k_is_whole => k_is)
    (case a_shared_part => k_is)
    (case l_shared_part => k_is)
    (case e_shared_part => k_is)
    (case k_shared_part => k_is)
    (case a_fraction => k_is)
    (case l_fraction => k_is)
    (case e_fraction => k_is)
    (case k_fraction => k_is)
    (case a_plus => k_is)
    (case l_plus => k_is)
    (case e_plus => k_is)
    (case k_plus => k_is)
    (case a_times => k_is)
    (case l_times => k_is)
    (case e_times => k_is)
    (case k_times => k_is)
    (case a_moment_table => k_is)
    (case l_moment_table => k_is)
    (case e_moment_table => k_is)
    (case k_moment_table => k_is)
    (case d_moment_table => kernel_rfl)
    (case a_shared_bottom => k_is)
    (case l_shared_bottom => k_is)
    (case e_shared_bottom => k_is)
    (case k_shared_bottom => k_is)
    (case a_folded => k_is)
    (case l_folded => k_is)
    (case e_folded => k_is)
    (case k_folded => k_is)
    (case a_whole_measure => k_is)
    (case l_whole_measure => k_is)
    (case e_whole_measure => k_is)
    (case k_whole_measure => k_is)
    (case a_measure => k_is)
    (case l_measure => k_is)
    (case e_measure => k_is)
    (case k_measure => k_is)
    (case a_weights_of => k_is)
    (case l_weights_of => k_is)
    (case e_weights_of => k_is)
    (case k_weights_of => k_is)
    (case a_height_of => k_is)
    (case l_height_of => k_is)
    (case e_height_of => k_is)
    (case k_height_of => k_is)
    (case a_check_reach => k_is)
    (case l_check_reach => k_is)
    (case e_check_reach => k_is)
    (case k_check_reach => k_is)
    (case a_one_step_on => k_is)
    (case l_one_step_on => k_is)
    (case e_one_step_on => k_is)
    (case k_one_step_on => k_is)
    (case a_sum_stepped => k_is)
    (case l_sum_stepped => k_is)
    (case e_sum_stepped => k_is)
    (case k_sum_stepped => k_is)
    (case d_sum_stepped => kernel_rfl)
    (case a_moments => k_is)
    (case l_moments => k_is)
    (case e_moments => k_is)
    (case k_moments => k_is)
    (case a__law_cell_at => k_is)
    (case l__law_cell_at => k_is)
    (case e__law_cell_at => k_is)
    (case k__law_cell_at => k_is)
    (case a__law_stir => k_is)
    (case l__law_stir => k_is)
    (case e__law_stir => k_is)
    (case k__law_stir => k_is)
    (case a__law_drawn => k_is)
    (case l__law_drawn => k_is)
    (case e__law_drawn => k_is)
    (case k__law_drawn => k_is)
    (case a__law_whole => k_is)
    (case l__law_whole => k_is)
    (case e__law_whole => k_is)
    (case k__law_whole => k_is)
    (case a__law_divisor => k_is)
    (case l__law_divisor => k_is)
    (case e__law_divisor => k_is)
    (case k__law_divisor => k_is)
    (case a__law_low => k_is)
    (case l__law_low => k_is)
    (case e__law_low => k_is)
    (case k__law_low => k_is)
    (case a__law_add => k_is)
    (case l__law_add => k_is)
    (case e__law_add => k_is)
    (case k__law_add => k_is)
    (case a__law_take => k_is)
    (case l__law_take => k_is)
    (case e__law_take => k_is)
    (case k__law_take => k_is)
    (case a__law_mul => k_is)
    (case l__law_mul => k_is)
    (case e__law_mul => k_is)
    (case k__law_mul => k_is)
    (case a__law_is_fraction => k_is)
    (case l__law_is_fraction => k_is)
    (case e__law_is_fraction => k_is)
    (case k__law_is_fraction => k_is)
    (case a__law_weight_by => k_is)
    (case l__law_weight_by => k_is)
    (case e__law_weight_by => k_is)
    (case k__law_weight_by => k_is)
    (case a__law_weights_by => k_is)
    (case l__law_weights_by => k_is)
    (case e__law_weights_by => k_is)
    (case k__law_weights_by => k_is)
    (case a__law_moments_by => k_is)
    (case l__law_moments_by => k_is)
    (case e__law_moments_by => k_is)
    (case k__law_moments_by => k_is)
    (case a__law_measure_by => k_is)
    (case l__law_measure_by => k_is)
    (case e__law_measure_by => k_is)
    (case k__law_measure_by => k_is)
    (case a__law_row_by => k_is)
    (case l__law_row_by => k_is)
    (case e__law_row_by => k_is)
    (case k__law_row_by => k_is)
    (case a__law_table_of => k_is)
    (case l__law_table_of => k_is)
    (case e__law_table_of => k_is)
    (case k__law_table_of => k_is)
    (case a__law_product => k_is)
    (case l__law_product => k_is)
    (case e__law_product => k_is)
    (case k__law_product => k_is)
    (case a_law => k_is)
    (case l_law => k_is)
    (case e_law => k_is)
    (case k_law => k_is)
    (case a_NOUGHT => k_is)
    (case a_NoFraction => k_is)
    (case a_NoWeights => k_is)
    (case a_ONE => k_is)
    (case a_TooFar => k_is)
    (case n_abs => k_is)
    (case n_bool => k_is)
    (case n_int => k_is)
    (case n_isinstance => k_is)
    (case n_len => k_is)
    (case n_list => k_is)
    (case n_min => k_is)
    (case n_range => k_is)
    (case n_tuple => k_is)
    (case a_MOST_LEVELS => k_is)
    (case x_nought => kernel_rfl)
    (case x_one => kernel_rfl)
    (case x_nw => kernel_rfl)
    (case x_tf => kernel_rfl)
    (case x_nf => kernel_rfl)
