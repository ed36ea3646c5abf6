import PyProof.Rows.All
import Wide.All
import OpenK.AllK
import Wide.FinOn
import PyProof.EqAt
import PyProof.EqKinds
import PyProof.TupleCall
import KE.BitLaws
import KE.KSortTupG
import KE.KSortKey
import Open.SpecLaws
import KE.OsHead
import KE.OsGo
import PyFlatLaws
import PySem.Challenge.RW_alarmtable_s01_answers
set_option Elab.async false
set_option linter.all false
set_option maxRecDepth 100000
set_option maxHeartbeats 4000000
open Array renaming length_toList→Ep, getElem?_toList→Wy
open Bool renaming false_ne_true→Bp, noConfusion→Dc, false_eq_true→D0, and_eq_true→Iu, eq_iff_iff→Vt
open Eq renaming trans→C5
open False renaming elim→Dn
open ForInStep renaming yield→Vs
open Int renaming toNat_natCast→D8
open List renaming length_map→Ac, getElem?_eq_some_iff→Af, mem_cons_of_mem→Am, getElem?_map→Ap, getElem?_eq_getElem→Aq, mem_of_getElem?→As, mem_map→Ay, mem_cons→Az, mem_cons_self→A0, length_cons→A2, size_toArray→A4, length_append→A6, mem_singleton→A9, mem_append→Ba, map_append→Bb, map_cons→Bc, range→Be, getElem?_set_ne→Bh, getElem?_set_self→Bm, mem_filter→Bn, nodup_cons→Bt, filter_cons→Bu, contains_iff_mem→Bv, getElem?_of_mem→B2, append_nil→B8, mem_append_right→Cb, length_filter_le→Cc, take_add_one→Ce, take_length→Cf, length_take→Cg, filterMap_cons→Ci, mem_range→Cp, length_range→Ct, foldl_cons→Cu, mem_append_left→C4, length_set→Dh, getElem?_append_right→Dz, map_map→D5, lookup_cons→D6, lookup→Ee, foldl_append→Eo, range_succ→Fc, all_eq_true→Fl, length_nil→Fz, nodup_append→F8, any_cons→Gf, filterMap_append→Hk, ext_getElem?→Hn, append_assoc→Ho, getElem?_append_left→Iv, map_congr_left→Iw, of_mem_zip→Jl, pairwise_cons→J4, filterMap_nil→J5, nodup_nil→Kn, foldl_nil→Ko, flatMap_cons→Kp, getElem?_eq_none→K7, cons_append→Ld, getElem?_take→O5, getD_eq_getElem?_getD→O6, filter_append→O7, mem_or_eq_of_mem_set→Qj, findIdx?_eq_none_iff→Qk, filter_congr→Ri, length_filterMap_le→Rj, length_eq_zero_iff→Tg, map_set→Vn, map_nil→Vo, filter_map→Vr, getElem?_zipWith→Wx, length_filter_lt_length_iff_exists→Xv, forIn_nil→Xz, length_zipWith→Aag, flatMap_append→Aah, filter_sublist→Aai, zip_cons_cons→Aan, mem_filterMap→Aao, find?_eq_none→Aap, findIdx?_eq_some_iff_getElem→Aca, any_map→Adm, eraseIdxIfInBounds_toArray→Adn, getElem_inj→Afh, flatMap_nil→Afi, find?_eq_some_iff_getElem→Afj, forIn_cons→Agl, perm_ext_iff_of_nodup→Aif, pairwise_iff_getElem→Aig
open List.Nodup renaming length_le_of_subset→C9
open List.Sublist renaming nodup→Aaq, map→Afk
open Nat renaming le_refl→Ak, lt_of_lt_of_le→Bs, le_trans→Bz, zero_le→B7, ne_of_lt→Cj, lt_irrefl→Ek, le_of_lt→En, le_succ→F7, le_add_right→Gn, lt_succ_self→Lc, sub_self→Oq, le_of_eq→Ot, lt_succ_of_lt→Rg, le_of_succ_le→Rh, succ_le_succ→Tf, ne_of_gt→Vl, min_self→Vm, not_lt_zero→Vq, lt_of_le_of_lt→Aam, zero_add→Adl
open Ne renaming symm→Rf
open Option renaming isSome_iff_exists→Cz, map_eq_some_iff→Vk, isSome_map→Adk
open Option.some renaming inj→Ah
open Or renaming inl→A7, inr→Aie
open PyProof.Rows renaming boot_int→C8, callWith_type1→Oo, KeyKind→Xy
open PyProof.Rows.G renaming tupKeyC→Fi, LtAt→Aaf
open PySem renaming mem_of_lookup→B5, boot_len→Cw
open PySem.F renaming plainAttrs_list→B1, plain_max_loop→Em, type_list_append→E1, slot_list_append→E2, type_list_extend→Jg, slot_list_extend→Jh, plainAttrs_dict→Te, entry_max_loop→Vj, slot_dict_get→Ww, slot_dict_setdefault→Agk
open PySem.W renaming Frag→Ad, fnOf→Ds, keepIn→Dx, findIn→Dy, emptyDict→El, instObj→Fy, nsIn→Kl, codeIn→Km, plainGet→Lb, mg_of→L9, callWith_K→O4, hasDictIn→Rc, isFn→Vi, lookIn→Xx, plainGet_of→Aae, plainOver→Adi, methodObj→Adj, takerIn→Agh, makesIn→Agi, length_le_weightAllW→Agj
open PyVbdlah renaming shape→Gm, whole→Aid
open Sum renaming inl→Jk, inr→Adh
open Sum.inl renaming inj→Afl
open True renaming intro→G3
open Vbdlah renaming step→Ae, rowsByNumber→Aj, St→Al, put→Au, say→Bd, within→Bi, Row→Bk, Kind→Bo, behind→Bw, start→Bx, isKind→B0, hinder→B9, rows→Cn, Call→Co, loud→C3, ackOne→Dd, Event→Dg, quiet→Dr, isUp→Dv, raised→D9, sound→Eb, raise→Ec, condOf→Ej, onK→Ez, offK→E4, numbers→E5, resetOne→Fb, barred→Ge, shown→G2, told→Ia, worn→J6, seconds→Kk, before→L8, since→Om, Up→O1, loudest→O2, counted→O3, LAST→Rb, rowOf→Vf, order→Vg, bit→Vh, senseAll→Vp, lapse→Adg
namespace L2
open PySem PySem.Spec PyProof.Rows
abbrev Key := Sum Int Str
def U0 : Key → Value → Bool
 | .inl k, v => Value.isInt k v
 | .inr x, v => Value.isStrOf x v
def keyH (w : World) : Key → Int
 | .inl k => hashInt k
 | .inr x => hashStr w x
theorem Er : ∀ {k : Key} {v : Value}, U0 k v = true → (∃ i t, k = Jk i ∧ v = Value.int i t) ∨ (∃ x t, k = Adh x ∧ v = Value.str x t)
 | .inl i, v, h => by
  obtain ⟨t, e⟩ := Value.isInt_shape (k := i) (v := v) h;exact .inl ⟨i, t, rfl, e⟩
 | .inr x, v, h => by
  obtain ⟨t, e⟩ := Value.isStrOf_shape (x := x) (v := v) h;exact .inr ⟨x, t, rfl, e⟩
theorem Abs (i : Int) (t : Tok) : U0 (.inl i) (.int i t) = true := by simp [U0, Value.isInt]
theorem Abr (x : Str) (t : Tok) : U0 (.inr x) (.str x t) = true := by simp [U0, Value.isStrOf]
theorem Ajs (a b : Int) : decide ((Jk a : Key) = Jk b) = (a == b) := by
 by_cases e : a = b
 ·subst e; simp
 ·have h : ¬ (Jk a : Key) = Jk b := fun q => e (Afl q);rw [decide_eq_false h];exact (beq_eq_false_iff_ne.mpr e).symm
theorem Ajp (a b : Str) : decide ((Adh a : Key) = Adh b) = decide (a = b) := by
 by_cases e : a = b
 ·subst e; simp
 ·have h : ¬ (Adh a : Key) = Adh b := fun q => e (Adh.inj q);rw [decide_eq_false h, decide_eq_false e]
theorem Ajr (a : Int) (b : Str) : decide ((Jk a : Key) = Adh b) = false := decide_eq_false (fun q => nomatch q)
theorem Ajq (a : Str) (b : Int) : decide ((Adh a : Key) = Jk b) = false := decide_eq_false (fun q => nomatch q)
def Eu (prog : Program) (w : World) : PySem.KeyKind prog w Key where
 is := U0
 hash := keyH w
 inj := fun v a b ha hb => by
  rcases Er ha with ⟨i, t, rfl, rfl⟩ | ⟨x, t, rfl, rfl⟩
  ·rcases Er hb with ⟨j, u, rfl, e⟩ | ⟨y, u, rfl, e⟩
   ·injection e with e1 _; rw [e1]
   ·exact nomatch e
  ·rcases Er hb with ⟨j, u, rfl, e⟩ | ⟨y, u, rfl, e⟩
   ·exact nomatch e
   ·injection e with e1 _; rw [e1]
 byValue := fun k v h => by
  rcases Er h with ⟨i, t, rfl, rfl⟩ | ⟨x, t, rfl, rfl⟩ <;> rfl
 pyHash := fun hv h => by
  rcases Er hv with ⟨i, t, rfl, rfl⟩ | ⟨x, t, rfl, rfl⟩
  ·exact wpAny_pyHash_int h
  ·exact wpAny_pyHash_str h
 eqBool := fun hu hv h => by
  rcases Er hu with ⟨i, t, rfl, rfl⟩ | ⟨x, t, rfl, rfl⟩
  ·rcases Er hv with ⟨j, u, rfl, rfl⟩ | ⟨y, u, rfl, rfl⟩
   ·rw [Ajs] at h; exact wpAny_eqBool_int h
   ·rw [Ajr] at h; exact SeqAt.EqAt.int_str i t y u _ _ _ _ h
  ·rcases Er hv with ⟨j, u, rfl, rfl⟩ | ⟨y, u, rfl, rfl⟩
   ·rw [Ajq] at h; exact SeqAt.EqAt.str_int x t j u _ _ _ _ h
   ·rw [Ajp] at h; exact wpAny_eqBool_str h
 «strs» := fun k x t v h => by
  rcases Er h with ⟨i, u, rfl, e⟩ | ⟨y, u, rfl, e⟩
  ·exact nomatch e
  ·injection e with e1 _
   subst e1
   cases v <;> rfl
theorem Xl (prog : Program) (w : World) (i : Int) (t : Tok) : (Eu prog w).is (.inl i) (.int i t) = true := Abs i t
theorem Xk (prog : Program) (w : World) (x : Str) (t : Tok) : (Eu prog w).is (.inr x) (.str x t) = true := Abr x t
end L2
namespace L2
open PySem PySem.Spec PyProof.Rows
inductive V where
 | non | bl (b : Bool) | int (i : Int) | str (x : Str) | byt (b : Array UInt8) | flt (b : UInt64) | ref (a : Addr) | ty (n : String)
 deriving DecidableEq
def Df : V → Value → Prop
 | .non, u => u = Value.none
 | .bl b, u => u = Value.bool b
 | .int i, u => ∃ t, u = Value.int i t
 | .str x, u => ∃ t, u = Value.str x t
 | .byt b, u => ∃ t, u = Value.bytes b t
 | .flt b, u => ∃ t, u = Value.float b t
 | .ref a, u => u = Value.ref a
 | .ty n, u => u = Value.type n
abbrev Cy : List V → List Value → Prop := Paired Df
theorem Cy.length {xs : List V} {us : List Value} (r : Cy xs us) : xs.length = us.length := Paired.length r
theorem Cy.get : ∀ {xs : List V} {us : List Value} {i : Nat} {x : V}, Cy xs us → xs[i]? = some x → ∃ u, us[i]? = some u ∧ Df x u
 | _, _, _, _, .nil, e => by simp at e
 | _, _, 0, _, .cons r _, e => by simp at e; subst e; exact ⟨_, rfl, r⟩
 | _, _, i + 1, x, .cons _ t, e => by
  obtain ⟨u, h1, h2⟩ := Cy.get (i := i) (x := x) t (by simpa using e);exact ⟨u, by simpa using h1, h2⟩
theorem Cy.append : ∀ {xs ys : List V} {us ws : List Value}, Cy xs us → Cy ys ws → Cy (xs ++ ys) (us ++ ws)
 | _, _, _, _, .nil, s => s
 | _, _, _, _, .cons r t, s => .cons r (Cy.append t s)
theorem Cy.take : ∀ {xs : List V} {us : List Value} (n : Nat), Cy xs us → Cy (xs.take n) (us.take n)
 | _, _, 0, _ => .nil
 | _, _, _ + 1, .nil => .nil
 | _, _, n + 1, .cons r t => .cons r (Cy.take n t)
theorem Cy.drop : ∀ {xs : List V} {us : List Value} (n : Nat), Cy xs us → Cy (xs.drop n) (us.drop n)
 | _, _, 0, r => r
 | _, _, _ + 1, .nil => .nil
 | _, _, n + 1, .cons _ t => Cy.drop n t
def Nn : Option V → Option Value → Prop
 | some v, some u => Df v u
 | none, none => True
 | _, _ => False
def KV {κ : Type} : List (κ × V) → List (κ × Value) → Prop := Paired fun (p : κ × V) (q : κ × Value) => p.1 = q.1 ∧ Df p.2 q.2
def kV : Key → V
 | .inl i => .int i
 | .inr x => .str x
inductive HO where
  | lst (xs : List V)
  | tup (xs : List V)
  | dK (kvs : List (Key × V)) | dT (kvs : List (List Key × V))
  | set (S : Int → Bool) (n : Nat)
  | ins (C dx : Addr) (fs : List (Str × V))
  | own (x : Addr)
  | xd (fs : List (Str × V))
  | met (f x : Addr)
  | rng (lo hi : Int)
  | frz (o : Obj) (u : HO)
  | tbl (ps : Array Value)
  | ext (φ : Heap → Prop)
abbrev Hp := Addr → Option HO
def upd (H : Hp) (a : Addr) (o : HO) : Hp := fun b => if b = a then some o else H b
theorem Ao {H : Hp} {a : Addr} {o : HO} : upd H a o a = some o := by unfold upd; rw [if_pos rfl]
theorem Aw {H : Hp} {a b : Addr} {o : HO} (h : b ≠ a) : upd H a o b = H b := by unfold upd; rw [if_neg h]
theorem Lg {H : Hp} {a : Addr} {o u : HO} : upd (upd H a o) a u = upd H a u := by
 funext b; unfold upd; split <;> rfl
theorem Ng {H : Hp} {a b : Addr} {o u : HO} (h : H a = some o) (h' : H b = some u) (d : o ≠ u) : a ≠ b := by
 intro e; subst e; rw [h] at h'; exact d (Ah h')
theorem Av {H : Hp} {a b : Addr} {o : HO} (h : H a = some o) (h' : H b = none) : a ≠ b := by
 intro e; subst e; rw [h] at h'; cases h'
section
variable (P : Program) (w : World)
def Fw (H : Hp) (h : Heap) (a : Addr) : HO → Prop
 | .lst xs => xs.length ≤ sizeLine ∧ ∃ (its : List Value) (n : Nat), Cy xs its ∧ h.get? a = some { cls := .type "list", data := .seq its.toArray n }
 | .tup xs => xs.length ≤ sizeLine ∧ ∃ its : List Value, Cy xs its ∧ IsTup h a its.toArray
 | .dK kvs => kvs.length ≤ sizeLine ∧ (a == sysModules) = false ∧ ∃ vs, KV kvs vs ∧ h.DictOf (Eu P w) a vs
 | .dT kvs => kvs.length ≤ sizeLine ∧ (a == sysModules) = false ∧ ∃ xs : List (List Key × Addr × Value),
   Paired (fun (p : List Key × V) (q : List Key × Addr × Value) => p.1 = q.1 ∧ H q.2.1 = some (.tup (p.1.map kV)) ∧ Df p.2 q.2.2) kvs xs ∧
   ∃ o es ep, h.get? a = some o ∧ o.ExactDict ∧ o.data = .dict es ep ∧ es.toList = xs.map (entryOfKey (tupleKind (Eu P w))) ∧ (xs.map (·.1)).Nodup
 | .set S n => h.SetOf (intKind P w) a S n
 | .ins C dx fs => H dx = some (.own a) ∧ fs.length ≤ 1000 ∧ dx ≠ a ∧ h.get? a = some (Fy C dx) ∧
   ∃ mA, h.Ns1 dx mA ∧ (∀ f, Nn (fs.lookup f) (mA f)) ∧ PySem.Within mA (fs.map (·.1))
 | .own _ => ∃ o, h.get? a = some o
 | .xd fs => ∃ mA, h.Ns1 a mA ∧ ∀ f, Nn (fs.lookup f) (mA f)
 | .rng lo hi => ∃ t u v, h.get? a = some { cls := .type "range", data := .fields #[.int lo t, .int hi u, .int 1 v] }
 | .frz o u => h.get? a = some o ∧ Fw H h a u
 | .tbl ps => h.get? a = some { cls := .none, data := .fields ps }
 | .met f x => h.get? a = some (Adj (.ref f) (.ref x))
 | .ext φ => φ h ∧ (∃ o, h.get? a = some o) ∧ ∀ h1 h2 : Heap, φ h1 → (∀ o, h1.get? a = some o → h2.get? a = some o) → φ h2
def HOk (H : Hp) (h : Heap) : Prop := ∀ a o, H a = some o → Fw P w H h a o
end
section
variable {P : Program} {w : World} {H H' : Hp} {h h' : Heap} {a : Addr} {o : HO}
theorem Fw.lt (x : Fw P w H h a o) : a < h.objs.size := by
 cases o with
 | lst xs => obtain ⟨_, _, _, _, e⟩ := x; exact Heap.lt_size e
 | tup xs => obtain ⟨_, _, _, p⟩ := x; exact p.lt
 | dK kvs => obtain ⟨_, _, _, _, o, _, _, e, _⟩ := x; exact Heap.lt_size e
 | dT kvs => obtain ⟨_, _, _, _, o, _, _, e, _⟩ := x; exact Heap.lt_size e
 | set S n => obtain ⟨o, _, _, _, e, _⟩ := x; exact Heap.lt_size e
 | ins C dx fs => obtain ⟨_, _, _, e, _⟩ := x; exact Heap.lt_size e
 | own y => obtain ⟨_, e⟩ := x; exact Heap.lt_size e
 | xd fs => obtain ⟨_, ⟨_, _, _, e, _⟩, _⟩ := x; exact Heap.lt_size e
 | rng lo hi => obtain ⟨_, _, _, e⟩ := x; exact Heap.lt_size e
 | frz ob u => obtain ⟨e, _⟩ := x; exact Heap.lt_size e
 | tbl ps => exact Heap.lt_size (show h.get? a = some _ from x)
 | met f y => exact Heap.lt_size (show h.get? a = some _ from x)
 | ext φ => obtain ⟨_, ⟨_, e⟩, _⟩ := x; exact Heap.lt_size e
theorem Paired.mapP {α β : Type} {F G : α → β → Prop} : ∀ {l₁ : List α} {l₂ : List β}, Paired F l₁ l₂ → (∀ a b, F a b → G a b) → Paired G l₁ l₂
 | _, _, .nil, _ => .nil
 | _, _, .cons r t, f => .cons (f _ _ r) (Paired.mapP t f)
theorem Fw.stay (x : Fw P w H h a o) (k : ∀ b u, (b = a ∨ H b = some (.own a)) → h.get? b = some u → h'.get? b = some u)
  (ho : ∀ b, H b = some (.own a) → H' b = some (.own a)) (ht : ∀ b xs, H b = some (.tup xs) → H' b = some (.tup xs)) : Fw P w H' h' a o := by
 induction o with
 | lst xs => obtain ⟨z, its, n, r, e⟩ := x; exact ⟨z, its, n, r, k _ _ (.inl rfl) e⟩
 | tup xs => obtain ⟨z, its, r, ob, e, c⟩ := x; exact ⟨z, its, r, ob, k _ _ (.inl rfl) e, c⟩
 | dK kvs => obtain ⟨z, y, vs, r, ob, es, ep, e, c⟩ := x; exact ⟨z, y, vs, r, ob, es, ep, k _ _ (.inl rfl) e, c⟩
 | dT kvs =>
  obtain ⟨z, y, xs, r, ob, es, ep, e, c⟩ := x;exact ⟨z, y, xs, Paired.mapP r fun p q z => ⟨z.1, ht _ _ z.2.1, z.2.2⟩, ob, es, ep, k _ _ (.inl rfl) e, c⟩
 | set S n => obtain ⟨ob, es, ep, t, e, c⟩ := x; exact ⟨ob, es, ep, t, k _ _ (.inl rfl) e, c⟩
 | ins C dx fs =>
  obtain ⟨d, z, ne, e, mA, ⟨od, es, ep, e2, c⟩, r⟩ := x;exact ⟨ho _ d, z, ne, k _ _ (.inl rfl) e, mA, ⟨od, es, ep, k _ _ (.inr d) e2, c⟩, r⟩
 | own y => obtain ⟨ob, e⟩ := x; exact ⟨ob, k _ _ (.inl rfl) e⟩
 | xd fs => obtain ⟨mA, ⟨od, es, ep, e, c⟩, r⟩ := x; exact ⟨mA, ⟨od, es, ep, k _ _ (.inl rfl) e, c⟩, r⟩
 | rng lo hi => obtain ⟨t, u, v, e⟩ := x; exact ⟨t, u, v, k _ _ (.inl rfl) e⟩
 | frz ob u ih => obtain ⟨e, q⟩ := x; exact ⟨k _ _ (.inl rfl) e, ih q⟩
 | tbl ps =>
  have e : h.get? a = some { cls := .none, data := .fields ps } := x;show h'.get? a = some { cls := .none, data := .fields ps };exact k a _ (.inl rfl) e
 | met f y =>
  have e : h.get? a = some (Adj (.ref f) (.ref y)) := x;show h'.get? a = some (Adj (.ref f) (.ref y));exact k a _ (.inl rfl) e
 | ext φ => obtain ⟨p, ⟨o, e⟩, st⟩ := x; exact ⟨st _ _ p fun o q => k _ _ (.inl rfl) q, ⟨o, k _ _ (.inl rfl) e⟩, st⟩
theorem HOk.lt (x : HOk P w H h) (e : H a = some o) : a < h.objs.size := (x a o e).lt
theorem HOk.fresh (x : HOk P w H h) (e : h.objs.size ≤ a) : H a = none := by
 cases q : H a with
 | none => rfl
 | some u => exact absurd (Bs (x.lt q) e) (Ek _)
theorem HOk.kept (x : HOk P w H h) (k : ∀ b u, h.get? b = some u → h'.get? b = some u) : HOk P w H h' := fun a o e =>
 (x a o e).stay (fun b u _ q => k b u q) (fun _ q => q) fun _ _ q => q
theorem HOk.laid (x : HOk P w H h) (k : ∀ b u, h.get? b = some u → h'.get? b = some u) (hp : h.objs.size ≤ a) (new : Fw P w (upd H a o) h' a o) : HOk P w (upd H a o) h' := fun b u e => by
 have hn := x.fresh hp
 by_cases hb : b = a
 ·subst hb; rw [Ao] at e; cases e; exact new
 ·rw [Aw hb] at e;exact (x b u e).stay (fun c v _ q => k c v q) (fun c q => by rw [Aw (Av q hn)]; exact q) fun c xs q => by rw [Aw (Av q hn)]; exact q
end
def Rd (H : Hp) (a : Addr) (u : HO) : Prop := H a = some u ∨ ∃ o, H a = some (.frz o u)
theorem Rd.ok {P : Program} {w : World} {H : Hp} {h : Heap} {a : Addr} {u : HO} (r : Rd H a u) (x : HOk P w H h) : Fw P w H h a u := by
 rcases r with r | ⟨o, r⟩
 ·exact x a u r
 ·obtain ⟨_, q⟩ := x a _ r;exact q
def Mut : Option HO → Prop
 | some (.lst _) => True
 | some (.dK _) => True
 | some (.dT _) => True
 | some (.set _ _) => True
 | some (.ins _ _ _) => True
 | some (.ext _) => True
 | _ => False
section
variable {P : Program} {w : World} {H : Hp} {h h' : Heap} {x e : Addr} {o' : HO}
theorem HOk.write (ok : HOk P w H h) (mu : Mut (H x)) (he : e = x ∨ H e = some (.own x)) (k : ∀ b u, b ≠ e → h.get? b = some u → h'.get? b = some u) (heo : ∃ u, h'.get? e = some u)
  (new : Fw P w (upd H x o') h' x o') : HOk P w (upd H x o') h' := fun b u q => by
 have nown : ∀ c y, H c = some (.own y) → c ≠ x := fun c y r z => by subst z; rw [r] at mu; exact mu
 have ntup : ∀ c xs, H c = some (.tup xs) → c ≠ x := fun c xs r z => by subst z; rw [r] at mu; exact mu
 by_cases hb : b = x
 ·subst hb; rw [Ao] at q; cases q; exact new
 ·rw [Aw hb] at q
  by_cases hbe : b = e
  ·have q' : H b = some (.own x) := by
    rcases he with z | z
    ·exact absurd (hbe.trans z) hb
    ·rw [hbe]; exact z
   rw [q] at q'; cases q';obtain ⟨v, hv⟩ := heo;exact ⟨v, by rw [hbe]; exact hv⟩
  ·refine (ok b u q).stay (fun c v hc r => k c v ?_ r) (fun c r => by rw [Aw (nown c b r)]; exact r) fun c xs r => by rw [Aw (ntup c xs r)]; exact r
   rcases hc with rfl | hc
   ·exact hbe
   ·rintro rfl
    rcases he with z | z
    ·exact nown c b hc z
    ·rw [hc] at z; cases z; exact hb rfl
end
structure Un (fs ex : List Addr) (H H' : Hp) (h h' : Heap) : Prop where
 keep : ∀ b o, h.get? b = some o → H b = none → b ∉ fs → b ∉ ex → h'.get? b = some o
 slot : ∀ b o, h.get? b = some o → H b = none → b ∈ fs → b ∉ ex → ∃ sl, h'.get? b = some { o with slots := sl }
 free : ∀ b o, h.get? b = some o → H b = none → b ∉ ex → H' b = none
 there : ∀ b o, h.get? b = some o → b ∉ ex → ∃ o', h'.get? b = some o'
 tups : ∀ b xs, H b = some (.tup xs) → H' b = some (.tup xs)
 frzs : ∀ b o u, H b = some (.frz o u) → H' b = some (.frz o u)
 tbls : ∀ b ps, H b = some (.tbl ps) → ∃ more, H' b = some (.tbl (ps ++ more))
section
variable {fs fs' ex ex' : List Addr} {H H1 H2 : Hp} {h h1 h2 h' : Heap} {a x e : Addr} {o : HO}
theorem Un.any (u : Un fs ex H H1 h h1) {b : Addr} {ob : Obj} (q : h.get? b = some ob) (n : H b = none) (hx : b ∉ ex) : ∃ sl, h1.get? b = some { ob with slots := sl } := by
 by_cases hb : b ∈ fs
 ·exact u.slot b ob q n hb hx
 ·exact ⟨ob.slots, u.keep b ob q n hb hx⟩
theorem Un.kept (k : ∀ b u, h.get? b = some u → h'.get? b = some u) : Un fs ex H H h h' :=
 ⟨fun b ob q _ _ _ => k b ob q, fun b ob q _ _ _ => ⟨ob.slots, k b ob q⟩, fun _ _ _ n _ => n, fun b ob q _ => ⟨ob, k b ob q⟩, fun _ _ q => q, fun _ _ _ q => q, fun _ ps q => ⟨#[], by rw [q]; simp⟩⟩
theorem Un.refl : Un fs ex H H h h := Un.kept fun _ _ q => q
theorem Un.laid (k : ∀ b u, h.get? b = some u → h'.get? b = some u) (hp : h.objs.size ≤ a) (hn : H a = none) : Un fs ex H (upd H a o) h h' where
 keep := fun b u q _ _ _ => k b u q
 slot := fun b u q _ _ _ => ⟨u.slots, k b u q⟩
 free := fun b u q n _ => by rw [Aw (Cj (Bs (Heap.lt_size q) hp))]; exact n
 there := fun b u q _ => ⟨u, k b u q⟩
 tups := fun b xs q => by rw [Aw (Av q hn)]; exact q
 frzs := fun b u xs q => by rw [Aw (Av q hn)]; exact q
 tbls := fun b ps q => ⟨#[], by rw [Aw (Av q hn), q]; simp⟩
theorem Un.write (mu : Mut (H x)) (he : e = x ∨ H e = some (.own x)) (k : ∀ b u, b ≠ e → h.get? b = some u → h'.get? b = some u) (heo : ∃ u, h'.get? e = some u) : Un fs ex H (upd H x o) h h' := by
 have hx : ∀ b, H b = none → b ≠ x := fun b n z => by subst z; rw [n] at mu; exact mu
 have hb : ∀ b, H b = none → b ≠ e := fun b n z => by
  subst z
  rcases he with r | r
  ·exact hx b n r
  ·rw [n] at r; cases r
 have hm : ∀ b u, H b = some u → ¬ Mut (some u) → b ≠ x := fun b u q nm z => by subst z; rw [q] at mu; exact nm mu
 refine ⟨fun b u q n _ _ => k b u (hb b n) q, fun b u q n _ _ => ⟨u.slots, k b u (hb b n) q⟩, fun b u q n _ => by rw [Aw (hx b n)]; exact n, fun b u q _ => ?_,
  fun b xs q => by rw [Aw (hm b _ q fun z => z)]; exact q, fun b u xs q => by rw [Aw (hm b _ q fun z => z)]; exact q, fun b ps q => ⟨#[], by rw [Aw (hm b _ q fun z => z), q]; simp⟩⟩
 by_cases hbe : b = e
 ·subst hbe; exact heo
 ·exact ⟨u, k b u hbe q⟩
end
def trk (h : Heap) (H : Hp) : List Addr := (Be h.objs.size).filter fun a => (H a).isSome
def Aak (h : Heap) (H : Hp) : Heap := PySem.W.hideAll h (trk h H)
theorem Abv (h : Heap) (H : Hp) : (Aak h H).objs.size = h.objs.size := PySem.W.hideAll_size _ _
theorem Aey {h : Heap} {H : Hp} {b : Addr} {o : Obj} (e : h.get? b = some o) (n : H b = none) : (Aak h H).get? b = some o :=
 PySem.W.hideAll_get _ e fun hm => by
  have q : (H b).isSome = true := (Bn.mp hm).2;rw [n] at q; simp at q
theorem Ahg {h : Heap} {H : Hp} {b : Addr} {o : Obj} (e : (Aak h H).get? b = some o) : h.get? b = some o ∧ H b = none := by
 have e' : h.get? b = some o := PySem.W.of_hideAll (trk h H) e;refine ⟨e', ?_⟩
 cases q : H b with
 | none => rfl
 | some x =>
  have hm : b ∈ trk h H := Bn.mpr ⟨Cp.mpr (Heap.lt_size e'), by simp [q]⟩;have z : (Aak h H).get? b = none := PySem.W.hideAll_none (trk h H) hm;rw [z] at e; cases e
end L2
namespace L2
open PySem PySem.Spec PyProof.Rows
structure Mod (K : Ad) (mg : Str → Option Value) (base : Heap) : Prop where
 kin : K.In base
 glob : base.Ns mainGlobals mg
 blt : ∃ mb, base.Ns builtinsNs mb ∧ ∀ x : Str, x ≠ "__name__" → mb x = bootBuiltins x
 nolimit : base.NoLimit
structure Cx where
 prog : Program
 w : World
 K : Ad
 mg : Str → Option Value
 base : Heap
 A : Around
 N : List Str
 s_0 : Shared
 H_0 : Hp
 env : Env
 outer : List Env
 stack : List Env
 ex : List Addr
 fn : Str → Bool
 calm : Bool
 pn : List (Addr × Obj)
 xe : Value → Shared → Prop
def frs (l : List Env) : List Addr := l.filterMap (·.frame)
abbrev Cx.fs (X : Cx) : List Addr := frs X.outer
def Vis (sc : Scope) (x : Str) : Prop := sc.names.lookup x = some .local ∨ sc.names.lookup x = some .cell ∨ sc.names.lookup x = some .free
def Loc (sc : Scope) (x : Str) : Prop := sc.names.lookup x = some .local ∨ sc.names.lookup x = some .cell
def Look (env : Env) (h : Heap) (m : Str → Option Value) (x : Str) (u : Value) : Prop :=
 (env.kindOf x = some .local ∧ m x = some u) ∨ ((env.kindOf x = some .cell ∨ env.kindOf x = some .free) ∧ ∃ c, env.cells.lookup x = some c ∧ h.IsCell c (some u))
structure Cx.Ok (X : Cx) : Prop where
 mod : Mod X.K X.mg X.base
 kind : X.env.scope.kind = .function
 glob : X.env.globals = mainGlobals
 blt : X.env.builtins = builtinsNs
 above : X.s_0.heap.objs.size ≤ X.env.locals
 inj : ∀ x y c, X.env.cells.lookup x = some c → X.env.cells.lookup y = some c → x = y
 has : ∀ x, (X.env.kindOf x = some .cell ∨ X.env.kindOf x = some .free) → ∃ c, X.env.cells.lookup x = some c
 cab : ∀ x c, X.fn x = true → X.env.cells.lookup x = some c → X.s_0.heap.objs.size ≤ c
 hd : X.calm = true → X.A.handled = none
 frames : X.A.frames = some X.stack
 stk : X.stack = X.outer ∨ (X.stack = X.env :: X.outer ∧ X.env.frame = some X.env.locals)
 exf : ∀ b ∈ X.ex, b ≠ X.env.locals ∧ ∀ x c, X.env.cells.lookup x = some c → c ≠ b
 bs : ∀ b o, X.base.get? b = some o → X.s_0.heap.get? b = some o ∧ X.H_0 b = none
 bsz : X.base.objs.size ≤ X.s_0.heap.objs.size
 noex : ∀ b o, X.base.get? b = some o → b ∉ X.ex
 exfs : ∀ b ∈ X.ex, b ∉ X.fs
 funs : X.s_0.heap.FunFrames X.base X.outer
 frf : ∀ b ∈ X.fs, X.H_0 b = none
structure Inv (X : Cx) (pins : List (Addr × Obj)) (σ : List (Option V)) (H : Hp) (s : Shared) : Prop where
 ok : X.Ok
 os : s.os = X.s_0.os
 bare : AllBare s.gens
 base : Un X.fs X.ex X.H_0 H X.s_0.heap s.heap
 loc : ∃ m, s.heap.Ns X.env.locals m ∧ ∀ (i : Nat) (x : Str) (v : V), X.N[i]? = some x → σ[i]? = some (some v) → Vis X.env.scope x → ∃ u, Df v u ∧ Look X.env s.heap m x u
 cell : ∀ x c, X.env.cells.lookup x = some c → ∃ v, s.heap.IsCell c v
 free : H X.env.locals = none
 freeC : ∀ x c, X.env.cells.lookup x = some c → H c = none
 pin : ∀ p ∈ X.pn ++ pins, s.heap.get? p.1 = some p.2 ∧ H p.1 = none ∧ p.1 ≠ X.env.locals ∧ p.1 ∉ X.fs ∧ ∀ v, p.2.data ≠ .cell v
 hok : HOk X.prog X.w H s.heap
 len : σ.length = X.N.length
section
variable {X : Cx} {pins : List (Addr × Obj)} {σ : List (Option V)} {H H' : Hp} {s : Shared} {h' : Heap}
theorem Cx.Ok.nofr (ok : X.Ok) {b : Addr} {o : Obj} (e : X.base.get? b = some o) : b ∉ X.fs := fun hb => by
 have := (ok.funs.mem hb).1;rw [e] at this; cases this
theorem Inv.bs (I : Inv X pins σ H s) : ∀ b o, X.base.get? b = some o → s.heap.get? b = some o ∧ H b = none := fun b o e =>
 ⟨I.base.keep b o (I.ok.bs b o e).1 (I.ok.bs b o e).2 (I.ok.nofr e) (I.ok.noex b o e), I.base.free b o (I.ok.bs b o e).1 (I.ok.bs b o e).2 (I.ok.noex b o e)⟩
theorem Inv.bk (I : Inv X pins σ H s) : ∀ b o, X.base.get? b = some o → s.heap.get? b = some o := fun b o e => (I.bs b o e).1
theorem Inv.mod (I : Inv X pins σ H s) : Mod X.K X.mg X.base := I.ok.mod
theorem Inv.kIn (I : Inv X pins σ H s) : X.K.In s.heap := I.ok.mod.kin.keeps I.bk
theorem Inv.lt (I : Inv X pins σ H s) : X.env.locals < s.heap.objs.size := let ⟨_, hn, _⟩ := I.loc; hn.lt
theorem Inv.sz (I : Inv X pins σ H s) : X.s_0.heap.objs.size ≤ s.heap.objs.size := Bz I.ok.above (En I.lt)
theorem Inv.nofs (I : Inv X pins σ H s) {a : Addr} (h : s.heap.objs.size ≤ a) : a ∉ X.fs := fun hb => by
 obtain ⟨_, o, ho, _⟩ := I.ok.funs.mem hb;exact absurd (Bs (Heap.lt_size ho) (Bz I.sz h)) (Ek _)
theorem Inv.cne (I : Inv X pins σ H s) : ∀ x c, X.env.cells.lookup x = some c → c ≠ X.env.locals := fun x c e z => by
 obtain ⟨v, o, ho, hd⟩ := I.cell x c e;obtain ⟨m, ⟨o', es, ep, ho', hd', _⟩, _⟩ := I.loc;rw [z, ho'] at ho; cases ho; rw [hd'] at hd; cases hd
theorem Inv.funs (I : Inv X pins σ H s) : s.heap.FunFrames X.base X.outer := by
 have all : ∀ (l : List Env), (∀ b ∈ frs l, b ∈ X.fs) → X.s_0.heap.FunFrames X.base l → s.heap.FunFrames X.base l := by
  intro l
  induction l with
  | nil => intro _ _; trivial
  | cons env r ih =>
   intro hs hl;obtain ⟨hk, ⟨L, o, hf, hn, ho, hd⟩, hr⟩ := hl;have hL : L ∈ X.fs := hs L (by unfold frs; rw [Ci, hf]; exact A0);obtain ⟨sl, e⟩ := I.base.slot L o ho (I.ok.frf L hL) hL fun z => I.ok.exfs L z hL;exact ⟨hk, ⟨L, _, hf, hn, e, hd⟩, ih (fun b hb => hs b (by unfold frs; rw [Ci, hf]; exact Am _ hb)) hr⟩
 exact all X.outer (fun _ hb => hb) I.ok.funs
theorem Inv.stack (I : Inv X pins σ H s) : s.heap.FunFrames X.base X.stack := by
 rcases I.ok.stk with e | ⟨e, hf⟩
 ·rw [e]; exact I.funs
 ·rw [e];obtain ⟨m, hn, _⟩ := I.loc;refine .cons (by rw [I.ok.kind]; decide) hf hn ?_ I.funs;exact Heap.get?_none_of_le (Bz I.ok.bsz I.ok.above)
theorem Inv.stkSub (I : Inv X pins σ H s) : ∀ b ∈ frs X.stack, b ∈ X.env.locals :: X.fs := fun b hb => by
 rcases I.ok.stk with e | ⟨e, hf⟩
 ·rw [e] at hb; exact Am _ hb
 ·rw [e] at hb;unfold frs at hb;rw [Ci, hf] at hb;exact hb
theorem Inv.stkFree (I : Inv X pins σ H s) : ∀ b ∈ frs X.stack, H b = none := fun b hb => by
 rcases Az.mp (I.stkSub b hb) with e | hb
 ·rw [e]; exact I.free
 ·obtain ⟨_, o, ho, _⟩ := I.ok.funs.mem hb;exact I.base.free b o ho (I.ok.frf b hb) fun z => I.ok.exfs b z hb
theorem Inv.step {g' : Array GenState} {t' : Nat} {d' : Drawn} {ch : List Addr} (I : Inv X pins σ H s)
  (hch : ∀ b ∈ ch, (b ∈ X.ex ∨ X.s_0.heap.objs.size ≤ b) ∧ b ≠ X.env.locals ∧ (∀ x c, X.env.cells.lookup x = some c → c ≠ b) ∧ ∀ p ∈ X.pn ++ pins, p.1 ≠ b)
  (keep : ∀ b o, b ≠ X.env.locals → b ∉ X.fs → b ∉ ch → s.heap.get? b = some o → H b = none → h'.get? b = some o)
  (slot : ∀ b o, b ≠ X.env.locals → b ∈ X.fs → b ∉ ch → s.heap.get? b = some o → H b = none → ∃ sl, h'.get? b = some { o with slots := sl }) (free : ∀ b o, b ∉ ch → s.heap.get? b = some o → H b = none → H' b = none)
  (there : ∀ b o, b ∉ ch → s.heap.get? b = some o → ∃ o', h'.get? b = some o')
  (tups : ∀ b xs, H b = some (.tup xs) → H' b = some (.tup xs)) (frzs : ∀ b o u, H b = some (.frz o u) → H' b = some (.frz o u)) (tbls : ∀ b ps, H b = some (.tbl ps) → ∃ more, H' b = some (.tbl (ps ++ more)))
  (ns : ∀ m, s.heap.Ns X.env.locals m → h'.Ns X.env.locals m) (hok : HOk X.prog X.w H' h') (hg : AllBare g') :
  Inv X pins σ H' { s with heap := h', gens := g', drawn := d', toks := t' } := by
 have neL : ∀ b o, X.s_0.heap.get? b = some o → b ≠ X.env.locals := fun b o e => Cj (Bs (Heap.lt_size e) I.ok.above);have neC : ∀ b o, X.s_0.heap.get? b = some o → b ∉ X.ex → b ∉ ch := fun b o e hx hb => by
  rcases (hch b hb).1 with z | z
  ·exact hx z
  ·exact absurd (Bs (Heap.lt_size e) z) (Ek _)
 have cellK : ∀ x c, X.env.cells.lookup x = some c → ∀ v, s.heap.IsCell c v → h'.IsCell c v := fun x c e v ⟨o, ho, hd⟩ => by
  have nch : c ∉ ch := fun z => (hch c z).2.2.1 x c e rfl
  by_cases hc : c ∈ X.fs
  ·obtain ⟨sl, q⟩ := slot c o (I.cne x c e) hc nch ho (I.freeC x c e);exact ⟨_, q, hd⟩
  ·exact ⟨o, keep c o (I.cne x c e) hc nch ho (I.freeC x c e), hd⟩
 refine ⟨I.ok, I.os, hg, ⟨fun b o e n hb hx => ?_, fun b o e n hb hx => ?_, fun b o e n hx => ?_, fun b o e hx => ?_, fun b xs e => tups b xs (I.base.tups b xs e), fun b o xs e => frzs b o xs (I.base.frzs b o xs e), fun b ps e => ?_⟩, ?_, fun x c e => ?_, ?_, fun x c e => ?_, fun p hp => ?_, hok, I.len⟩
 ·exact keep b o (neL b o e) hb (neC b o e hx) (I.base.keep b o e n hb hx) (I.base.free b o e n hx)
 ·obtain ⟨sl, e1⟩ := I.base.slot b o e n hb hx;obtain ⟨sl', e2⟩ := slot b _ (neL b o e) hb (neC b o e hx) e1 (I.base.free b o e n hx);exact ⟨sl', e2⟩
 ·obtain ⟨o', e1⟩ := I.base.there b o e hx;exact free b o' (neC b o e hx) e1 (I.base.free b o e n hx)
 ·obtain ⟨o', e1⟩ := I.base.there b o e hx;exact there b o' (neC b o e hx) e1
 ·obtain ⟨m1, e1⟩ := I.base.tbls b ps e;obtain ⟨m2, e2⟩ := tbls b _ e1;exact ⟨m1 ++ m2, by rw [e2, Array.append_assoc]⟩
 ·obtain ⟨m, hn, hl⟩ := I.loc;refine ⟨m, ns m hn, fun i x v e1 e2 e3 => ?_⟩;obtain ⟨u, r, l⟩ := hl i x v e1 e2 e3;refine ⟨u, r, ?_⟩
  rcases l with l | ⟨k, c, e, z⟩
  ·exact .inl l
  ·exact .inr ⟨k, c, e, cellK x c e _ z⟩
 ·obtain ⟨v, z⟩ := I.cell x c e;exact ⟨v, cellK x c e v z⟩
 ·obtain ⟨m, ⟨o, _, _, ho, _⟩, _⟩ := I.loc;exact free _ o (fun z => (hch _ z).2.1 rfl) ho I.free
 ·obtain ⟨v, o, ho, hd⟩ := I.cell x c e;exact free c o (fun z => (hch c z).2.2.1 x c e rfl) ho (I.freeC x c e)
 ·obtain ⟨e, n, ne, nf, d⟩ := I.pin p hp;have nch : p.1 ∉ ch := fun z => (hch p.1 z).2.2.2 p hp rfl;exact ⟨keep p.1 p.2 ne nf nch e n, free p.1 p.2 nch e n, ne, nf, d⟩
theorem Inv.un {t' : Nat} (I : Inv X pins σ H s) (u : Un X.fs [] H H' s.heap h') (hok : HOk X.prog X.w H' h') : Inv X pins σ H' { s with heap := h', toks := t' } := by
 obtain ⟨m, ⟨o, es, ep, ho, r⟩, _⟩ := id I.loc;obtain ⟨sl, hL⟩ := u.any ho I.free (by simp);exact I.step (g' := s.gens) (d' := s.drawn) (ch := []) (fun _ z => nomatch z) (fun b o _ hb _ e n => u.keep b o e n hb (by simp)) (fun b o _ hb _ e n => u.slot b o e n hb (by simp)) (fun b o _ e n => u.free b o e n (by simp)) (fun b o _ e => u.there b o e (by simp)) u.tups u.frzs u.tbls (fun m' hm => by
  obtain ⟨o', es', ep', ho', r'⟩ := hm;rw [ho] at ho'; cases ho';exact ⟨_, es', ep', hL, r'⟩) hok I.bare
theorem Inv.call {g' : Array GenState} {t' : Nat} {d' : Drawn} {ch : List Addr} (I : Inv X pins σ H s) (u : Un (frs X.stack) ch H H' s.heap h') (hok : HOk X.prog X.w H' h') (hg : AllBare g')
  (hch : ∀ b ∈ ch, (b ∈ X.ex ∨ X.s_0.heap.objs.size ≤ b) ∧ b ≠ X.env.locals ∧ (∀ x c, X.env.cells.lookup x = some c → c ≠ b) ∧ ∀ p ∈ X.pn ++ pins, p.1 ≠ b) :
  Inv X pins σ H' { s with heap := h', gens := g', drawn := d', toks := t' } := by
 obtain ⟨m, ⟨o, es, ep, ho, r⟩, _⟩ := id I.loc;obtain ⟨sl, hL⟩ := u.any ho I.free fun z => (hch _ z).2.1 rfl;exact I.step (ch := ch) hch (fun b o hL hb hc e n => u.keep b o e n (fun z => (Az.mp (I.stkSub b z)).elim hL hb) hc) (fun b o _ _ hc e n => u.any e n hc) (fun b o hc e n => u.free b o e n hc) (fun b o hc e => u.there b o e hc) u.tups u.frzs u.tbls (fun m' hm => by
  obtain ⟨o', es', ep', ho', r'⟩ := hm;rw [ho] at ho'; cases ho';exact ⟨_, es', ep', hL, r'⟩) hok hg
theorem Inv.turned {t' : Nat} {it : Addr} (I : Inv X pins σ H s) (k : ∀ b o, b ≠ it → s.heap.get? b = some o → h'.get? b = some o) (hn : H it = none) (hL : it ≠ X.env.locals)
  (h1 : it ∈ X.ex ∨ X.s_0.heap.objs.size ≤ it) (h2 : ∀ x c, X.env.cells.lookup x = some c → c ≠ it) (h3 : ∀ p ∈ X.pn ++ pins, p.1 ≠ it) : Inv X pins σ H { s with heap := h', toks := t' } := by
 have nit : ∀ b u, H b = some u → b ≠ it := fun b u e z => by rw [z, hn] at e; cases e
 refine I.step (g' := s.gens) (d' := s.drawn) (ch := [it]) (fun b hb => ?_) (fun b o _ _ hc e _ => k b o (fun z => hc (by simp [z])) e) (fun b o _ _ hc e _ => ⟨o.slots, k b o (fun z => hc (by simp [z])) e⟩) (fun _ _ _ _ n => n)
  (fun b o hc e => ⟨o, k b o (fun z => hc (by simp [z])) e⟩) (fun _ _ e => e) (fun _ _ _ e => e) (fun b ps e => ⟨#[], by rw [e]; simp⟩) (fun m hm => ?_) (fun b u e => ?_) I.bare
 ·have e : b = it := by simpa using hb
  subst e;exact ⟨h1, hL, h2, h3⟩
 ·obtain ⟨o, es, ep, ho, r⟩ := hm;exact ⟨o, es, ep, k _ o (Rf hL) ho, r⟩
 ·refine (I.hok b u e).stay (fun c v hc q => k c v ?_ q) (fun _ q => q) fun _ _ q => q
  rcases hc with z | z
  ·rw [z]; exact nit b u e
  ·exact nit c _ z
theorem Inv.tok (I : Inv X pins σ H s) (t : Nat) : Inv X pins σ H { s with toks := t } := I.un (h' := s.heap) (t' := t) Un.refl I.hok
theorem Inv.kept {t' : Nat} (I : Inv X pins σ H s) (k : ∀ b u, s.heap.get? b = some u → h'.get? b = some u) : Inv X pins σ H { s with heap := h', toks := t' } := I.un (Un.kept k) (I.hok.kept k)
theorem Inv.laid {a : Addr} {o : HO} {t' : Nat} (I : Inv X pins σ H s) (k : ∀ b u, s.heap.get? b = some u → h'.get? b = some u) (hp : s.heap.objs.size ≤ a) (new : Fw X.prog X.w (upd H a o) h' a o) :
  Inv X pins σ (upd H a o) { s with heap := h', toks := t' } := I.un (Un.laid k hp (I.hok.fresh hp)) (I.hok.laid k hp new)
theorem Inv.write {x e : Addr} {o : HO} {t' : Nat} (I : Inv X pins σ H s) (mu : Mut (H x)) (he : e = x ∨ H e = some (.own x)) (k : ∀ b u, b ≠ e → s.heap.get? b = some u → h'.get? b = some u) (heo : ∃ u, h'.get? e = some u)
  (new : Fw X.prog X.w (upd H x o) h' x o) : Inv X pins σ (upd H x o) { s with heap := h', toks := t' } := I.un (Un.write mu he k heo) (I.hok.write mu he k heo new)
theorem Inv.weak {σ' : List (Option V)} (I : Inv X pins σ H s) (hl : σ'.length = σ.length) (w : ∀ (i : Nat) v, σ'[i]? = some (some v) → σ[i]? = some (some v)) : Inv X pins σ' H s :=
 ⟨I.ok, I.os, I.bare, I.base, let ⟨m, hn, hl'⟩ := I.loc; ⟨m, hn, fun i x v e1 e2 e3 => hl' i x v e1 (w i v e2) e3⟩, I.cell, I.free, I.freeC, I.pin, I.hok, hl.trans I.len⟩
theorem Inv.pins_of {pins' : List (Addr × Obj)} (I : Inv X pins σ H s) (h : ∀ p ∈ pins', s.heap.get? p.1 = some p.2 ∧ H p.1 = none ∧ p.1 ≠ X.env.locals ∧ p.1 ∉ X.fs ∧ ∀ v, p.2.data ≠ .cell v) : Inv X pins' σ H s :=
 ⟨I.ok, I.os, I.bare, I.base, I.loc, I.cell, I.free, I.freeC, fun p hp => (Ba.mp hp).elim (fun z => I.pin p (C4 _ z)) (h p), I.hok, I.len⟩
theorem Uu {N : List Str} (hN : N.Nodup) {i j : Nat} {x : Str} (a : N[i]? = some x) (b : N[j]? = some x) : i = j := by
 obtain ⟨h1, e1⟩ := Af.mp a;obtain ⟨h2, e2⟩ := Af.mp b;exact (Afh hN).mp (e1.trans e2.symm)
theorem Vz {M : Model} {A : Around} {E : Value → Shared → Prop} {i : Nat} {x : Str} {v : V} {u : Value} {Q : Unit → Shared → Prop} (I : Inv X pins σ H s) (hN : X.N.Nodup) (hi : X.N[i]? = some x) (hx : Loc X.env.scope x) (r : Df v u)
  (h : ∀ s', Inv X pins (σ.set i (some v)) H s' → (∃ a, Heap.SameBut a s.heap s'.heap ∧ (a = X.env.locals ∨ X.env.cells.lookup x = some a)) → Q () s') (hf : X.fn x = true ∨ X.env.scope.names.lookup x = some .local := by first | exact .inl rfl | exact .inr rfl | assumption) : wpAny M A (storeName X.env x u) Q E s := by
 obtain ⟨m, hn, hl⟩ := id I.loc;have hcls : (X.env.scope.kind == .class || (X.env.scope.kind == .module && X.env.locals != X.env.globals)) = false := by rw [I.ok.kind]; rfl
 have hiσ : i < σ.length := by rw [I.len]; exact (Af.mp hi).1
 have cne := I.cne;have tracked : ∀ {a : Addr} {h' : Heap}, (∃ o, s.heap.get? a = some o ∧ H a = none) → Heap.SameBut a s.heap h' → HOk X.prog X.w H h' := fun {a h'} ha hs b ob e => by
  obtain ⟨_, _, hfree⟩ := ha;refine (I.hok b ob e).stay (fun c w' hc q => (hs.2 c ?_).trans q) (fun _ q => q) fun _ _ q => q;rintro rfl
  rcases hc with rfl | hc
  ·rw [hfree] at e; cases e
  ·rw [hfree] at hc; cases hc
 rcases hx with hk | hk
 ·refine wpAny_storeName_local hk hn (fun h' hn' hs => ?_) hcls;obtain ⟨oL, _, _, hoL, _⟩ := id hn;refine h _ ⟨I.ok, I.os, I.bare, ⟨fun b o e n hb hx => ?_, fun b o e n hb hx => ?_, I.base.free, fun b o e hx => ?_, I.base.tups, I.base.frzs, I.base.tbls⟩, ⟨_, hn', fun j y v' e1 e2 e3 => ?_⟩, fun y c e => ?_, I.free, I.freeC, fun p hp => ?_, tracked ⟨oL, hoL, I.free⟩ hs, by simpa using I.len⟩ ⟨_, hs, .inl rfl⟩
  ·exact (hs.2 b (Cj (Bs (Heap.lt_size e) I.ok.above))).trans (I.base.keep b o e n hb hx)
  ·obtain ⟨sl, e1⟩ := I.base.slot b o e n hb hx;exact ⟨sl, (hs.2 b (Cj (Bs (Heap.lt_size e) I.ok.above))).trans e1⟩
  ·obtain ⟨o', e1⟩ := I.base.there b o e hx;exact ⟨o', (hs.2 b (Cj (Bs (Heap.lt_size e) I.ok.above))).trans e1⟩
  ·by_cases hj : j = i
   ·subst hj;rw [hi] at e1; cases e1;rw [Bm hiσ] at e2
    cases e2
    exact ⟨u, r, .inl ⟨hk, by simp⟩⟩
   ·rw [Bh (Rf hj)] at e2;obtain ⟨u', r', q⟩ := hl j y v' e1 e2 e3;refine ⟨u', r', ?_⟩
    rcases q with ⟨k, e⟩ | ⟨k, c, e, z⟩
    ·refine .inl ⟨k, ?_⟩;have : y ≠ x := fun e => hj (Uu hN e1 (e ▸ hi));simp [this, e]
    ·exact .inr ⟨k, c, e, z.sameBut hs (cne y c e)⟩
  ·obtain ⟨w', z⟩ := I.cell y c e;exact ⟨w', z.sameBut hs (cne y c e)⟩
  ·obtain ⟨e, n, ne, nf, d⟩ := I.pin p hp;exact ⟨(hs.2 p.1 ne).trans e, n, ne, nf, d⟩
 ·have hfn : X.fn x = true := by
   rcases hf with z | z
   ·exact z
   ·rw [z] at hk; cases hk
  obtain ⟨c, hc⟩ := I.ok.has x (.inl hk);obtain ⟨w', z⟩ := I.cell x c hc;refine wpAny_storeName_cell I.ok.kind hk hc z (fun h' hc' hs => ?_);obtain ⟨oc, hoc, hocd⟩ := id z;refine h { s with heap := h' } ⟨I.ok, I.os, I.bare, ⟨fun b o e n hb hx => ?_, fun b o e n hb hx => ?_, I.base.free, fun b o e hx => ?_, I.base.tups, I.base.frzs, I.base.tbls⟩, ⟨m, hn.sameBut hs (Rf (cne x c hc)), fun j y v' e1 e2 e3 => ?_⟩, fun y c' e => ?_, I.free, I.freeC, fun p hp => ?_, tracked ⟨oc, hoc, I.freeC x c hc⟩ hs, by simpa using I.len⟩ ⟨c, hs, .inr hc⟩
  ·exact (hs.2 b (Cj (Bs (Heap.lt_size e) (I.ok.cab x c hfn hc)))).trans (I.base.keep b o e n hb hx)
  ·obtain ⟨sl, e1⟩ := I.base.slot b o e n hb hx;exact ⟨sl, (hs.2 b (Cj (Bs (Heap.lt_size e) (I.ok.cab x c hfn hc)))).trans e1⟩
  ·obtain ⟨o', e1⟩ := I.base.there b o e hx;exact ⟨o', (hs.2 b (Cj (Bs (Heap.lt_size e) (I.ok.cab x c hfn hc)))).trans e1⟩
  ·by_cases hj : j = i
   ·subst hj;rw [hi] at e1; cases e1;rw [Bm hiσ] at e2
    cases e2
    exact ⟨u, r, .inr ⟨.inl hk, c, hc, hc'⟩⟩
   ·rw [Bh (Rf hj)] at e2;obtain ⟨u', r', q⟩ := hl j y v' e1 e2 e3;refine ⟨u', r', ?_⟩
    rcases q with q | ⟨k, c', e, z'⟩
    ·exact .inl q
    ·refine .inr ⟨k, c', e, z'.sameBut hs ?_⟩;rintro rfl;exact hj (Uu hN e1 (I.ok.inj _ _ _ e hc ▸ hi))
  ·by_cases hcc : c' = c
   ·subst hcc; exact ⟨_, hc'⟩
   ·obtain ⟨w2, z2⟩ := I.cell y c' e;exact ⟨w2, z2.sameBut hs hcc⟩
  ·obtain ⟨e, n, ne, nf, d⟩ := I.pin p hp;refine ⟨(hs.2 p.1 ?_).trans e, n, ne, nf, d⟩;intro q;rw [q, hoc] at e;have q' : oc = p.2 := Ah e;exact d w' (by rw [← q']; exact hocd)
theorem To {M : Model} {A : Around} {E : Value → Shared → Prop} {i : Nat} {x : Str} {v : V} {u : Value} {Q : Unit → Shared → Prop} (I : Inv X pins σ H s) (hN : X.N.Nodup) (hi : X.N[i]? = some x) (hx : Loc X.env.scope x) (r : Df v u)
  (h : ∀ s', Inv X pins (σ.set i (some v)) H s' → Q () s') (hf : X.fn x = true ∨ X.env.scope.names.lookup x = some .local := by first | exact .inl rfl | exact .inr rfl | assumption) : wpAny M A (storeName X.env x u) Q E s :=
 Vz I hN hi hx r (fun s' I' _ => h s' I') hf
theorem Inv.call' {s' : Shared} {ch : List Addr} (I : Inv X pins σ H s) (ho : s'.os = s.os) (u : Un (frs X.stack) ch H H' s.heap s'.heap) (hok : HOk X.prog X.w H' s'.heap) (hg : AllBare s'.gens)
  (hch : ∀ b ∈ ch, (b ∈ X.ex ∨ X.s_0.heap.objs.size ≤ b) ∧ b ≠ X.env.locals ∧ (∀ x c, X.env.cells.lookup x = some c → c ≠ b) ∧ ∀ p ∈ X.pn ++ pins, p.1 ≠ b) : Inv X pins σ H' s' := by
 obtain ⟨h', g', d', t', o'⟩ := s';have e : o' = s.os := ho;subst e;exact I.call (g' := g') (t' := t') (d' := d') u hok hg hch
end
abbrev XK := Value → Option Addr → Hp → Prop
abbrev St := List (Option V)
abbrev VK := V → Hp → Prop
abbrev TE := St → Hp → VK → Prop
abbrev TT := St → Hp → (Bool → Hp → Prop) → Prop
abbrev TA := St → Hp → (List V → Hp → Prop) → Prop
structure Aac where
 nx : St → Hp → Prop
 rt : VK
 bk : St → Hp → Prop := fun _ _ => False
 ct : St → Hp → Prop := fun _ _ => False
abbrev TS := Aac → St → Hp → Prop
def EP (X : Cx) (pins : List (Addr × Obj)) (σ : St) (Q : VK) (u : Value) (s' : Shared) : Prop := ∃ v H', Inv X pins σ H' s' ∧ Df v u ∧ Q v H'
def TP (X : Cx) (pins : List (Addr × Obj)) (σ : St) (Q : Bool → Hp → Prop) (b : Bool) (s' : Shared) : Prop := ∃ H', Inv X pins σ H' s' ∧ Q b H'
def AP (X : Cx) (pins : List (Addr × Obj)) (σ : St) (Q : List V → Hp → Prop) (us : List Value) (s' : Shared) : Prop := ∃ vs H', Inv X pins σ H' s' ∧ Cy vs us ∧ Q vs H'
def SP (X : Cx) (pins : List (Addr × Obj)) (D : Aac) (f : Flow) (s' : Shared) : Prop :=
 match f with
 | .next => ∃ σ' H', Inv X pins σ' H' s' ∧ D.nx σ' H'
 | .brk => ∃ σ' H', Inv X pins σ' H' s' ∧ D.bk σ' H'
 | .cont => ∃ σ' H', Inv X pins σ' H' s' ∧ D.ct σ' H'
 | .ret u => ∃ v σ' H', Inv X pins σ' H' s' ∧ Df v u ∧ D.rt v H'
def PE (X : Cx) (e : Expr) (t : TE) : Prop :=
 ∀ (pins : List (Addr × Obj)) (s : Shared) (σ : St) (H : Hp) (Q : VK), Inv X pins σ H s → t σ H Q → wpAny (model X.prog X.w) X.A (eval e X.env) (EP X pins σ Q) X.xe s
def PT (X : Cx) (e : Expr) (t : TT) : Prop :=
 ∀ (pins : List (Addr × Obj)) (s : Shared) (σ : St) (H : Hp) (Q : Bool → Hp → Prop), Inv X pins σ H s → t σ H Q → wpAny (model X.prog X.w) X.A (isTrue e X.env (eval e X.env)) (TP X pins σ Q) X.xe s
def PW (X : Cx) (e : Expr) (t : TT) : Prop :=
 ∀ (whole : Sem Value) (pins : List (Addr × Obj)) (s : Shared) (σ : St) (H : Hp) (Q : Bool → Hp → Prop), Inv X pins σ H s → t σ H Q → wpAny (model X.prog X.w) X.A (isTrue e X.env whole) (TP X pins σ Q) X.xe s
theorem PW.pt {X : Cx} {e : Expr} {t : TT} (h : PW X e t) : PT X e t := h _
def PA (X : Cx) (es : List Expr) (t : TA) : Prop :=
 ∀ (pos : Pos) (pins : List (Addr × Obj)) (s : Shared) (σ : St) (H : Hp) (Q : List V → Hp → Prop), Inv X pins σ H s → t σ H Q → wpAny (model X.prog X.w) X.A (spliced (backTo pos (starEach es X.env))) (AP X pins σ Q) X.xe s
def PS (X : Cx) (st : Stmt) (t : TS) : Prop :=
 ∀ (pins : List (Addr × Obj)) (s : Shared) (σ : St) (H : Hp) (D : Aac), Inv X pins σ H s → t D σ H → wpAny (model X.prog X.w) X.A (exec st X.env) (SP X pins D) X.xe s
def PSs (X : Cx) (st : List Stmt) (t : TS) : Prop :=
 ∀ (pins : List (Addr × Obj)) (s : Shared) (σ : St) (H : Hp) (D : Aac), Inv X pins σ H s → t D σ H → wpAny (model X.prog X.w) X.A (execs st X.env) (SP X pins D) X.xe s
theorem thn {α : Type} {t : Sem α} {Q Q' : α → Shared → Prop} {M : Model} {A : Around} {E : Value → Shared → Prop} {s : Shared} (h : wpAny M A t Q E s) (hQ : ∀ a s, Q a s → Q' a s) : wpAny M A t Q' E s := wpAny_mono h hQ fun _ _ x => x
end L2
namespace L2
open PySem PySem.Spec PyProof.Rows
section
variable {X : Cx}
def Fj (i : Nat) : TE := fun σ H Q => ∃ v, σ[i]? = some (some v) ∧ Q v H
def tC (v : V) : TE := fun _ H Q => Q v H
theorem Aj1 {i : Nat} {x : Str} {pos : Pos} (hN : X.N[i]? = some x) (hv : Vis X.env.scope x) (hd : (x == ("__debug__" : Str)) = false := by decide) (hcd : (x == ("__classdict__" : Str)) = false := by decide) : PE X (.Name x pos) (Fj i) := by
 intro pins s σ H Q I h;obtain ⟨v, e, h⟩ := h;obtain ⟨m, hn, hl⟩ := I.loc;obtain ⟨u, r, l⟩ := hl i x v hN e hv;have fin : EP X pins σ Q u s := ⟨v, H, I, r, h⟩
 rcases l with ⟨hk, hm⟩ | ⟨hk, c, hc, hcell⟩
 ·exact wpAny_Name (wpAny_loadName_local I.ok.kind hk hn hm fin) hd
 ·rcases hk with hk | hk
  ·exact wpAny_Name (wpAny_loadName_cell I.ok.kind hk hc hcell fin) hd
  ·exact wpAny_Name (wpAny_loadName_free I.ok.kind hk hc hcell fin hcd) hd
theorem Ax {i j pos} : PE X (.Constant (.int i) j pos) (tC (.int i)) := fun _ _ _ H _ I h => wpAny_Constant_int ⟨.int i, H, I.tok _, ⟨_, rfl⟩, h⟩
theorem K1 {b j pos} : PE X (.Constant (.bool b) j pos) (tC (.bl b)) := fun _ _ _ H _ I h => Constant_bool ⟨.bl b, H, I, rfl, h⟩
theorem Pp {j pos} : PE X (.Constant .none j pos) (tC .non) := fun _ _ _ H _ I h => Constant_none ⟨.non, H, I, rfl, h⟩
def Gl (X : Cx) (x : Str) : Prop := X.env.kindOf x = some .globalImplicit
theorem Uy {E : Value → Shared → Prop} {pins : List (Addr × Obj)} {s : Shared} {σ : St} {H : Hp} {x : Str} {u : Value} {pos : Pos} {Q : Value → Shared → Prop} (I : Inv X pins σ H s) (hg : Gl X x) (hm : X.mg x = some u) (h : Q u s)
  (hd : (x == ("__debug__" : Str)) = false := by decide) : wpAny (model X.prog X.w) X.A (eval (.Name x pos) X.env) Q E s :=
 Calls.Name_function_global I.ok.kind hg (Calls.loadGlobal_global (by rw [I.ok.glob]; exact I.mod.glob.keeps I.bk) hm h) hd
theorem S2 {E : Value → Shared → Prop} {pins : List (Addr × Obj)} {s : Shared} {σ : St} {H : Hp} {x : Str} {u : Value} {pos : Pos} {Q : Value → Shared → Prop} (I : Inv X pins σ H s) (hg : Gl X x) (hm : X.mg x = none) (hv : bootBuiltins x = some u) (h : Q u s)
  (hn : x ≠ "__name__" := by decide) (hd : (x == ("__debug__" : Str)) = false := by decide) : wpAny (model X.prog X.w) X.A (eval (.Name x pos) X.env) Q E s := by
 obtain ⟨mb, h1, h2⟩ := I.mod.blt;exact Calls.Name_function_global I.ok.kind hg (Calls.loadGlobal_builtin (by rw [I.ok.glob]; exact I.mod.glob.keeps I.bk) hm (by rw [I.ok.blt]; exact h1.keeps I.bk) ((h2 x hn).trans hv) h) hd
theorem Kd {x : Str} {v : V} {u : Value} {pos : Pos} (hg : Gl X x) (hm : X.mg x = some u) (r : Df v u) (hd : (x == ("__debug__" : Str)) = false := by decide) : PE X (.Name x pos) (tC v) :=
 fun _ _ _ H _ I h => Uy I hg hm ⟨v, H, I, r, h⟩ hd
variable {a b : Expr} {ta tb : TE} {pos : Pos}
def PC (X : Cx) (op : CmpOp) (a b : Expr) (t : TE) : Prop :=
 ∀ (pins : List (Addr × Obj)) (s : Shared) (σ : St) (H : Hp) (Q : VK), Inv X pins σ H s → t σ H Q →
  wpAny (model X.prog X.w) X.A (eval a X.env) (fun v s₁ => wpAny (model X.prog X.w) X.A (eval b X.env) (fun u s₂ => wpAny (model X.prog X.w) X.A (compareOp op v u) (EP X pins σ Q) X.xe s₂) X.xe s₁) X.xe s
def tB (t : TE) : TT := fun σ H Q => t σ H fun x H1 => ∃ c, x = .bl c ∧ Q c H1
theorem Aj4 {op : CmpOp} {t : TE} (h : PC X op a b t) (h1 : behindInMarks op b = false := by first | exact nobehind _ (by decide) (by decide) | rfl) : PE X (.Compare a [op] [b] pos) t := fun pins s σ H Q I hw => wpAny_Compare1 (h pins s σ H Q I hw) h1
theorem Acu {op : CmpOp} {t : TE} (h : PC X op a b t) (h1 : behindInMarks op b = false := by first | exact nobehind _ (by decide) (by decide) | rfl) : PT X (.Compare a [op] [b] pos) (tB t) := by
 intro pins s σ H Q I hw;refine wpAny_isTrue_Compare1 (thn (h pins s σ H _ I hw) fun v s1 h1 => thn h1 fun u s2 h2 => thn h2 fun c s3 ⟨x, H1, I1, r1, q1⟩ => ?_) h1;obtain ⟨d, rfl, q⟩ := q1
 cases r1
 exact wpAny_truthy_bool ⟨H1, I1, q⟩
theorem Ck {e : Expr} {t : TE} (h : PE X e t) (he : ∀ whole, isTrue e X.env whole = (do let v ← whole; standAt e.pos; holding [v] (truthy v)) := by intro _; rfl) : PT X e (tB t) := by
 intro pins s σ H Q I hw;refine isTrue_plain (thn (h pins s σ H _ I hw) fun v s1 ⟨x, H1, I1, r1, q1⟩ => ?_) (he _);obtain ⟨d, rfl, q⟩ := q1
 cases r1
 exact wpAny_truthy_bool ⟨H1, I1, q⟩
variable {tA tB' : TT} {rest : List Expr}
def tAnd (t u : TT) : TT := fun σ H Q => t σ H fun c H1 => if c = true then u σ H1 Q else Q false H1
def tOr (t u : TT) : TT := fun σ H Q => t σ H fun c H1 => if c = true then Q true H1 else u σ H1 Q
def Ail (t : TT) : TT := fun σ H Q => t σ H fun c H1 => Q (!c) H1
theorem Ye (ha : PT X a tA) : PW X (.BoolOp .And [a] pos) tA := by
 intro wh pins s σ H Q I h;refine isTrue_and (thn (ha pins s σ H Q I h) fun c s1 e => ?_)
 cases c with
 | true => exact isTrue_and_nil e
 | false => exact e
theorem Pl (ha : PT X a tA) : PW X (.BoolOp .Or [a] pos) tA := by
 intro wh pins s σ H Q I h;refine isTrue_or (thn (ha pins s σ H Q I h) fun c s1 e => ?_)
 cases c with
 | false => exact isTrue_or_nil e
 | true => exact e
theorem Acs (ha : PT X a tA) (hb : PW X (.BoolOp .And (b :: rest) pos) tB') : PW X (.BoolOp .And (a :: b :: rest) pos) (tAnd tA tB') := by
 intro wh pins s σ H Q I h;refine isTrue_and (thn (ha pins s σ H _ I h) fun c s1 ⟨H1, I1, q1⟩ => ?_)
 cases c with
 | true => exact hb wh pins s1 σ H1 Q I1 q1
 | false => exact ⟨H1, I1, q1⟩
theorem Xd (ha : PT X a tA) (hb : PW X (.BoolOp .Or (b :: rest) pos) tB') : PW X (.BoolOp .Or (a :: b :: rest) pos) (tOr tA tB') := by
 intro wh pins s σ H Q I h;refine isTrue_or (thn (ha pins s σ H _ I h) fun c s1 ⟨H1, I1, q1⟩ => ?_)
 cases c with
 | true => exact ⟨H1, I1, q1⟩
 | false => exact hb wh pins s1 σ H1 Q I1 q1
theorem D7 (ha : PT X a tA) : PT X (.UnaryOp .Not a pos) (Ail tA) := by
 intro pins s σ H Q I h;exact isTrue_not (ha pins s σ H (fun c H1 => Q (!c) H1) I h)
def Akk (ta tb : TE) : TE := fun σ H Q => ta σ H fun x H1 => ∃ c, x = .bl c ∧ if c = true then tb σ H1 Q else Q (.bl false) H1
def tOrV (ta tb : TE) : TE := fun σ H Q => ta σ H fun x H1 => ∃ c, x = .bl c ∧ if c = true then Q (.bl true) H1 else tb σ H1 Q
def Akf (ta : TE) : TE := fun σ H Q => ta σ H fun x H1 => ∃ c, x = .bl c ∧ Q (.bl (!c)) H1
theorem Acy {op} {t : TE} (h : PE X a t) : PE X (.BoolOp op [a] pos) t := fun pins s σ H Q I hw => BoolOp_one (h pins s σ H Q I hw)
theorem Ag5 (ha : PE X a ta) (hb : PE X (.BoolOp .And (b :: rest) pos) tb) : PE X (.BoolOp .And (a :: b :: rest) pos) (Akk ta tb) := by
 intro pins s σ H Q I h;refine BoolOp_and (thn (ha pins s σ H _ I h) fun v s1 ⟨x, H1, I1, r1, q1⟩ => ?_);obtain ⟨c, rfl, q1⟩ := q1
 cases r1
 refine wpAny_truthy_bool ?_
 cases c with
 | true => exact hb pins s1 σ H1 Q I1 q1
 | false => exact ⟨.bl false, H1, I1, rfl, q1⟩
theorem Akm (ha : PE X a ta) (hb : PE X (.BoolOp .Or (b :: rest) pos) tb) : PE X (.BoolOp .Or (a :: b :: rest) pos) (tOrV ta tb) := by
 intro pins s σ H Q I h;refine BoolOp_or (thn (ha pins s σ H _ I h) fun v s1 ⟨x, H1, I1, r1, q1⟩ => ?_);obtain ⟨c, rfl, q1⟩ := q1
 cases r1
 refine wpAny_truthy_bool ?_
 cases c with
 | false => exact hb pins s1 σ H1 Q I1 q1
 | true => exact ⟨.bl true, H1, I1, rfl, q1⟩
theorem Aj3 (ha : PE X a ta) : PE X (.UnaryOp .Not a pos) (Akf ta) := by
 intro pins s σ H Q I h;refine UnaryOp_ (thn (ha pins s σ H _ I h) fun v s1 ⟨x, H1, I1, r1, q1⟩ => ?_);obtain ⟨c, rfl, q1⟩ := q1
 cases r1
 exact not_of (wpAny_truthy_bool ⟨.bl (!c), H1, I1, rfl, q1⟩)
def tIf (t : TT) (ta tb : TE) : TE := fun σ H Q => t σ H fun c H1 => if c = true then ta σ H1 Q else tb σ H1 Q
theorem Pq {c : Expr} (hc : PT X c tA) (ha : PE X a ta) (hb : PE X b tb) : PE X (.IfExp c a b pos) (tIf tA ta tb) := by
 intro pins s σ H Q I h;refine wpAny_IfExp (thn (hc pins s σ H _ I h) fun d s1 ⟨H1, I1, q1⟩ => ?_)
 cases d with
 | true => exact ha pins s1 σ H1 Q I1 q1
 | false => exact hb pins s1 σ H1 Q I1 q1
end
end L2
namespace L2
open PySem PySem.Spec PyProof.Rows
def SqL (K : Ad) (H : Hp) (a : Addr) (xs : List V) : Prop :=
 Rd H a (.lst xs) ∨
  ∃ (o : Obj) (its : Array Value) (n : Nat), K.lookup a = some o ∧ o.cls = .type "list" ∧ o.dict = none ∧ o.data = .seq its n ∧ its.size ≤ sizeLine ∧ Cy xs its.toList
def SqT (K : Ad) (H : Hp) (a : Addr) (xs : List V) : Prop :=
 Rd H a (.tup xs) ∨
  ∃ (o : Obj) (its : Array Value) (n : Nat), K.lookup a = some o ∧ o.cls = .type "tuple" ∧ o.data = .seq its n ∧ its.size ≤ sizeLine ∧ Cy xs its.toList
def absV : Value → Option V
 | .none => some .non
 | .bool b => some (.bl b)
 | .int i _ => some (.int i)
 | .str x _ => some (.str x)
 | .bytes b _ => some (.byt b)
 | .float b _ => some (.flt b)
 | .ref a => some (.ref a)
 | .type n => some (.ty n)
 | _ => none
theorem Df.abs {x : V} {u : Value} (r : Df x u) : absV u = some x := by
 cases x with
 | non => cases r; rfl
 | bl _ => cases r; rfl
 | int _ => obtain ⟨t, rfl⟩ := r; rfl
 | str _ => obtain ⟨t, rfl⟩ := r; rfl
 | byt _ => obtain ⟨t, rfl⟩ := r; rfl
 | flt _ => obtain ⟨t, rfl⟩ := r; rfl
 | ref _ => cases r; rfl
 | ty _ => cases r; rfl
theorem Df.inj {x y : V} {u : Value} (r : Df x u) (q : Df y u) : x = y := Ah (r.abs.symm.trans q.abs)
theorem Cy.inj : ∀ {xs ys : List V} {us : List Value}, Cy xs us → Cy ys us → xs = ys
 | _, _, _, .nil, .nil => rfl
 | _, _, _, .cons r t, .cons r' t' => by rw [r.inj r', Cy.inj t t']
section
variable {X : Cx} {pins : List (Addr × Obj)} {σ : St} {H : Hp} {s : Shared} {a : Addr} {xs ys : List V}
theorem SqL.of {K : Ad} (h : H a = some (.lst xs)) : SqL K H a xs := .inl (.inl h)
theorem SqT.of {K : Ad} (h : H a = some (.tup xs)) : SqT K H a xs := .inl (.inl h)
theorem Inv.list (I : Inv X pins σ H s) (h : SqL X.K H a xs) : ∃ its : List Value, Cy xs its ∧ PlainL s.heap a its.toArray ∧ xs.length ≤ sizeLine := by
 rcases h with h | ⟨o, its, n, hk, hc, hd, hs, hz, r⟩
 ·obtain ⟨z, its, n, r, e⟩ := h.ok I.hok;exact ⟨its, r, ⟨_, n, e, rfl, rfl, rfl⟩, z⟩
 ·refine ⟨its.toList, r, ⟨o, n, I.kIn a o hk, hc, hd, by simpa using hs⟩, ?_⟩;have e := r.length;simp only [Ep] at e;omega
theorem Inv.tuple (I : Inv X pins σ H s) (h : SqT X.K H a xs) : ∃ its : List Value, Cy xs its ∧ IsTup s.heap a its.toArray ∧ xs.length ≤ sizeLine := by
 rcases h with h | ⟨o, its, n, hk, hc, hs, hz, r⟩
 ·obtain ⟨z, its, r, p⟩ := h.ok I.hok;exact ⟨its, r, p, z⟩
 ·refine ⟨its.toList, r, ⟨o, I.kIn a o hk, hc, n, by simpa using hs⟩, ?_⟩;have e := r.length;simp only [Ep] at e;omega
theorem Inv.list_inj (I : Inv X pins σ H s) (h : SqL X.K H a xs) (h' : SqL X.K H a ys) : xs = ys := by
 obtain ⟨its, r, ⟨o, n, e, _, _, d⟩, _⟩ := I.list h;obtain ⟨its', r', ⟨o', n', e', _, _, d'⟩, _⟩ := I.list h';rw [e] at e'; cases e';rw [d] at d'
 injection d' with d1 _
 have : its = its' := by simpa using congrArg Array.toList d1
 subst this;exact r.inj r'
theorem Inv.tuple_inj (I : Inv X pins σ H s) (h : SqT X.K H a xs) (h' : SqT X.K H a ys) : xs = ys := by
 obtain ⟨its, r, ⟨o, e, _, n, d⟩, _⟩ := I.tuple h;obtain ⟨its', r', ⟨o', e', _, n', d'⟩, _⟩ := I.tuple h';rw [e] at e'; cases e';rw [d] at d'
 injection d' with d1 _
 have : its = its' := by simpa using congrArg Array.toList d1
 subst this;exact r.inj r'
end
abbrev Cx.wish (X : Cx) (E : Value → Shared → Prop) : Cx := { X with xe := E }
abbrev Cx.nox (X : Cx) : Cx := X.wish fun _ _ => False
theorem Cx.Ok.wish {X : Cx} (ok : X.Ok) (E : Value → Shared → Prop) : (X.wish E).Ok :=
 ⟨ok.mod, ok.kind, ok.glob, ok.blt, ok.above, ok.inj, ok.has, ok.cab, ok.hd, ok.frames, ok.stk, ok.exf, ok.bs, ok.bsz, ok.noex, ok.exfs, ok.funs, ok.frf⟩
theorem Cx.Ok.unwish {X : Cx} {E : Value → Shared → Prop} (ok : (X.wish E).Ok) : X.Ok :=
 ⟨ok.mod, ok.kind, ok.glob, ok.blt, ok.above, ok.inj, ok.has, ok.cab, ok.hd, ok.frames, ok.stk, ok.exf, ok.bs, ok.bsz, ok.noex, ok.exfs, ok.funs, ok.frf⟩
section
variable {X : Cx} {pins : List (Addr × Obj)} {σ : St} {H : Hp} {s : Shared} {E : Value → Shared → Prop}
theorem Inv.wish (I : Inv X pins σ H s) (E : Value → Shared → Prop) : Inv (X.wish E) pins σ H s := ⟨I.ok.wish E, I.os, I.bare, I.base, I.loc, I.cell, I.free, I.freeC, I.pin, I.hok, I.len⟩
theorem Inv.unwish (I : Inv (X.wish E) pins σ H s) : Inv X pins σ H s := ⟨I.ok.unwish, I.os, I.bare, I.base, I.loc, I.cell, I.free, I.freeC, I.pin, I.hok, I.len⟩
theorem SP.unwish {D : Aac} {f : Flow} {s' : Shared} (h : SP (X.wish E) pins D f s') : SP X pins D f s' := by
 cases f with
 | next => obtain ⟨σ', H', I, q⟩ := h; exact ⟨σ', H', I.unwish, q⟩
 | brk => obtain ⟨σ', H', I, q⟩ := h; exact ⟨σ', H', I.unwish, q⟩
 | cont => obtain ⟨σ', H', I, q⟩ := h; exact ⟨σ', H', I.unwish, q⟩
 | ret u => obtain ⟨v, σ', H', I, r, q⟩ := h; exact ⟨v, σ', H', I.unwish, r, q⟩
theorem PSs.nox {st : List Stmt} {t : TS} (h : PSs X.nox st t) : PSs X st t := fun pins s σ H D I hw =>
 wpAny_mono (h pins s σ H D (I.wish _) hw) (fun _ _ q => q.unwish) fun _ _ z => Dn z
end
section
variable {X : Cx} {st : Stmt} {rest : List Stmt} {t u : TS} {e : Expr} {te : TE} {pos : Pos}
def Akg : TS := fun D σ H => D.nx σ H
def Aaj (t u : TS) : TS := fun D σ H => t { D with nx := u D } σ H
theorem Bg : PSs X [] Akg := fun _ _ σ H _ I h => wpAny_execs_nil ⟨σ, H, I, h⟩
theorem Ab (h1 : PS X st t) (h2 : PSs X rest u) : PSs X (st :: rest) (Aaj t u) := by
 intro pins s σ H D I h;refine wpAny_execs_cons (thn (h1 pins s σ H { D with nx := u D } I h) fun f s1 q => ?_)
 cases f with
 | next =>
  obtain ⟨σ', H', I', q⟩ := q;exact h2 pins s1 σ' H' D I' q
 | ret v => exact q
 | brk => exact q
 | cont => exact q
theorem Ai (h1 : PS X st t) : PSs X [st] t := by
 intro pins s σ H D I h;refine wpAny_execs_cons (thn (h1 pins s σ H D I h) fun f s1 q => ?_)
 cases f with
 | next => exact wpAny_execs_nil q
 | ret v => exact q
 | brk => exact q
 | cont => exact q
theorem Inv.quiet {pins : List (Addr × Obj)} {σ : St} {H : Hp} {s : Shared} (I : Inv X pins σ H s) : interactive X.env = false := by simp [interactive, I.ok.kind]
def Adz (te : TE) : TS := fun D σ H => te σ H fun _ H1 => D.nx σ H1
theorem Cv (he : PE X e te) (hs : swapsWith e none pos.line X.env = pure false := by rfl) : PS X (.Expr e pos) (Adz te) := by
 intro pins s σ H D I h;exact wpAny_Expr_any (thn (he pins s σ H _ I h) fun v s1 ⟨x, H1, I1, r1, q1⟩ => ⟨σ, H1, I1, q1⟩) I.quiet hs
def tRet (te : TE) : TS := fun D σ H => te σ H D.rt
theorem A1 (he : PE X e te) : PS X (.Return (some e) pos) (tRet te) := by
 intro pins s σ H D I h;exact wpAny_Return_some (thn (he pins s σ H _ I h) fun v s1 ⟨x, H1, I1, r1, q1⟩ => ⟨x, σ, H1, I1, r1, q1⟩)
def tIfS (c : TT) (t u : TS) : TS := fun D σ H => c σ H fun b H1 => if b = true then t D σ H1 else u D σ H1
theorem Ca {c : Expr} {a b : List Stmt} {tc : TT} (hc : PT X c tc) (ha : PSs X a t) (hb : PSs X b u) : PS X (.If c a b pos) (tIfS tc t u) := by
 intro pins s σ H D I h;refine wpAny_If (thn (hc pins s σ H _ I h) fun d s1 ⟨H1, I1, q1⟩ => ?_)
 cases d with
 | true => exact ha pins s1 σ H1 D I1 q1
 | false => exact hb pins s1 σ H1 D I1 q1
end
abbrev TG := V → St → Hp → (St → Hp → Prop) → Prop
abbrev TGs := List V → St → Hp → (St → Hp → Prop) → Prop
def PG (X : Cx) (target : Expr) (t : TG) : Prop :=
 ∀ (pins : List (Addr × Obj)) (s : Shared) (σ : St) (H : Hp) (v : V) (u : Value) (Q : St → Hp → Prop), Inv X pins σ H s → Df v u → t v σ H Q →
  wpAny (model X.prog X.w) X.A (assign target X.env u) (fun _ s' => ∃ σ' H', Inv X pins σ' H' s' ∧ Q σ' H') X.xe s
def PGs (X : Cx) (ts : List Expr) (t : TGs) : Prop :=
 ∀ (pins : List (Addr × Obj)) (s : Shared) (σ : St) (H : Hp) (vs : List V) (us : List Value) (Q : St → Hp → Prop), Inv X pins σ H s → Cy vs us → t vs σ H Q →
  wpAny (model X.prog X.w) X.A (assignInOrder ((assignEach ts X.env).map (·.2)) us) (fun _ s' => ∃ σ' H', Inv X pins σ' H' s' ∧ Q σ' H') X.xe s
abbrev TIp := V → V → Hp → VK → Prop
def PIp (X : Cx) (op : Operator) (t : TIp) : Prop :=
 ∀ (pins : List (Addr × Obj)) (s : Shared) (σ : St) (H : Hp) (x y : V) (v u : Value) (Q : VK), Inv X pins σ H s → Df x v → Df y u → t x y H Q →
  wpAny (model X.prog X.w) X.A (inplaceOp op v u) (EP X pins σ Q) X.xe s
section
variable {X : Cx} {pos : Pos}
def Jv (i : Nat) : TG := fun v σ H Q => Q (σ.set i (some v)) H
theorem Dj {i : Nat} {x : Str} (hN : X.N.Nodup) (hi : X.N[i]? = some x) (hx : Loc X.env.scope x) (hf : X.fn x = true ∨ X.env.scope.names.lookup x = some .local := by first | exact .inl rfl | exact .inr rfl | assumption) : PG X (.Name x pos) (Jv i) := by
 intro pins s σ H v u Q I r h;exact wpAny_assign_Name (To I hN hi hx r (fun s' I' => ⟨_, H, I', h⟩) hf)
def gNil : TGs := fun vs σ H Q => vs = [] ∧ Q σ H
def Akx (t : TG) (u : TGs) : TGs := fun vs σ H Q => ∃ v r, vs = v :: r ∧ t v σ H fun σ' H' => u r σ' H' Q
theorem Acx : PGs X [] gNil := by
 intro pins s σ H vs us Q I r h;obtain ⟨e, h⟩ := h;subst e
 cases r
 exact assignInOrder_nil ⟨σ, H, I, h⟩
theorem Po {e : Expr} {es : List Expr} {t : TG} {u : TGs} (h1 : PG X e t) (h2 : PGs X es u)
  (hs : (assignEach (e :: es) X.env).map (·.2) = assign e X.env :: (assignEach es X.env).map (·.2) := by rfl) : PGs X (e :: es) (Akx t u) := by
 intro pins s σ H vs us Q I r h;obtain ⟨v, vr, e1, h⟩ := h;subst e1
 cases r with
 | cons r rr =>
  rw [hs];refine assignInOrder_cons (thn (h1 pins s σ H _ _ _ I r h) fun _ s1 ⟨σ1, H1, I1, q1⟩ => ?_);exact h2 pins s1 σ1 H1 _ _ Q I1 rr q1
def gTup (K : Ad) (n : Nat) (t : TGs) : TG := fun v σ H Q => ∃ a xs, v = .ref a ∧ SqT K H a xs ∧ xs.length = n ∧ t xs σ H Q
theorem Ag2 {es : List Expr} {k : Nat} {t : TGs} {n : Nat} (hc : X.calm = true) (h : PGs X es t)
  (hn : (assignEach es X.env).length = n := by rfl) (hst : (assignEach es X.env).findIdx? (·.1) = none := by rfl) : PG X (.Tuple es k pos) (gTup X.K n t) := by
 intro pins s σ H v u Q I r hw;obtain ⟨a, xs, e1, hq, hl, hw⟩ := hw;subst e1
 cases r
 obtain ⟨its, rv, ht, hz⟩ := I.tuple hq;refine assign_Tuple_tuple (I.ok.hd hc) ht (by simp [hn, ← hl, rv.length]) hst fun h' hx => ?_;have I1 : Inv X pins σ H { s with heap := h' } := I.kept (t' := s.toks) fun b o e => hx b o (Cj (Heap.lt_size e)) e;exact h pins _ σ H xs _ Q I1 (by simpa using rv) hw
def tAsg (te : TE) (g : TG) : TS := fun D σ H => te σ H fun x H1 => g x σ H1 D.nx
theorem Bf {i : Nat} {x : Str} {e : Expr} {te : TE} {pos' : Pos} (hN : X.N.Nodup) (hi : X.N[i]? = some x) (hx : Loc X.env.scope x) (he : PE X e te) (hs : swapsWith e (some (.Name x pos')) pos.line X.env = pure false := by rfl) (hf : X.fn x = true ∨ X.env.scope.names.lookup x = some .local := by first | exact .inl rfl | exact .inr rfl | assumption) :
  PS X (.Assign [.Name x pos'] e pos) (tAsg te (Jv i)) := by
 intro pins s σ H D I h;refine wpAny_Assign_Name (thn (he pins s σ H _ I h) fun v s1 ⟨y, H1, I1, r1, q1⟩ => ?_) hs;exact To I1 hN hi hx r1 (fun s2 I2 => ⟨_, H1, I2, q1⟩) hf
def tAug (i : Nat) (te : TE) (ti : TIp) : TS := fun D σ H => ∃ x, σ[i]? = some (some x) ∧ te σ H fun y H1 => ti x y H1 fun z H2 => D.nx (σ.set i (some z)) H2
theorem Aiy {i : Nat} {x : Str} {e : Expr} {te : TE} {op : Operator} {ti : TIp} {pos' : Pos} (hN : X.N.Nodup) (hi : X.N[i]? = some x) (hx : Loc X.env.scope x) (he : PE X e te) (ho : PIp X op ti) (hf : X.fn x = true ∨ X.env.scope.names.lookup x = some .local := by first | exact .inl rfl | exact .inr rfl | assumption) :
  PS X (.AugAssign (.Name x pos') op e pos) (tAug i te ti) := by
 intro pins s σ H D I h;obtain ⟨v, e1, h⟩ := h;obtain ⟨m, hn, hl⟩ := I.loc;have vis : Vis X.env.scope x := by rcases hx with k | k; exact .inl k; exact .inr (.inl k)
 obtain ⟨u, r, l⟩ := hl i x v hi e1 vis;refine wpAny_AugAssign_Name ?_;have go : wpAny (model X.prog X.w) X.A (eval e X.env) (fun w s₂ => wpAny (model X.prog X.w) X.A (inplaceOp op u w) (fun r s₃ => wpAny (model X.prog X.w) X.A (storeName X.env x r) (fun _ => SP X pins D .next) X.xe s₃) X.xe s₂) X.xe s := by
  refine thn (he pins s σ H _ I h) fun w s1 ⟨y, H1, I1, r1, q1⟩ => ?_;refine thn (ho pins s1 σ H1 v y u w _ I1 r r1 q1) fun z s2 ⟨zv, H2, I2, r2, q2⟩ => ?_;exact To I2 hN hi hx r2 (fun s3 I3 => ⟨_, H2, I3, q2⟩) hf
 rcases l with ⟨hk, hm⟩ | ⟨hk, c, hc, hcell⟩
 ·exact wpAny_loadName_local I.ok.kind hk hn hm go
 ·rcases hk with hk | hk
  ·exact wpAny_loadName_cell I.ok.kind hk hc hcell go
  ·rcases hx with k | k
   ·have : X.env.scope.names.lookup x = some .free := hk;rw [k] at this; cases this
   ·have : X.env.scope.names.lookup x = some .free := hk;rw [k] at this; cases this
def ipI (f : Int → Int → Int) : TIp := fun x y H Q => ∃ i j, x = .int i ∧ y = .int j ∧ Q (.int (f i j)) H
theorem Ajt : PIp X .Sub (ipI fun i j => i - j) := by
 intro pins s σ H x y v u Q I r1 r2 h;obtain ⟨i, j, e1, e2, q⟩ := h;subst e1; subst e2;obtain ⟨t, rfl⟩ := r1;obtain ⟨t', rfl⟩ := r2;exact isub_int ⟨.int _, H, I.tok _, ⟨_, rfl⟩, q⟩
def Afr (c : TT) (tb : TS) : TS := fun D σ H => ∃ W : Nat → St → Hp → Prop, (∃ m, W m σ H) ∧ ∀ m σ H, W m σ H →
 c σ H fun b H1 => if b = true then ∃ N : St → Hp → Prop, (∀ σ' H', N σ' H' → ∃ m', m' < m ∧ W m' σ' H') ∧ tb { D with nx := N, ct := N, bk := D.nx } σ H1 else D.nx σ H1
theorem M3 {c : Expr} {body : List Stmt} {tc : TT} {tb : TS} (hp : PassesOwn (model X.prog X.w) X.A X.env X.xe) (hc : PT X c tc) (hb : PSs X body tb) : PS X (.While c body [] pos) (Afr tc tb) := by
 intro pins s σ H D I h;obtain ⟨W, ⟨m0, w0⟩, turn⟩ := h;refine wpAny_While (codeAny_whileLoop (fun n s' => ∃ σ' H', Inv X pins σ' H' s' ∧ W n σ' H') ?_ m0 ⟨σ, H, I, w0⟩);rintro n s1 ⟨σ1, H1, I1, w1⟩;refine wpAny_passesOwn hp (thn (hc pins s1 σ1 H1 _ I1 (turn n σ1 H1 w1)) fun b s2 ⟨H2, I2, q2⟩ => ?_)
 cases b with
 | true =>
  obtain ⟨N, hN, q2⟩ := q2;rw [if_pos rfl];refine wpAny_passesOwn hp (thn (hb pins s2 σ1 H2 _ I2 q2) fun f s3 q3 => ?_)
  cases f with
  | next =>
   obtain ⟨σ3, H3, I3, n3⟩ := q3;obtain ⟨m', hm, w3⟩ := hN σ3 H3 n3;exact ⟨m', hm, σ3, H3, I3, w3⟩
  | cont =>
   obtain ⟨σ3, H3, I3, n3⟩ := q3;obtain ⟨m', hm, w3⟩ := hN σ3 H3 n3;exact ⟨m', hm, σ3, H3, I3, w3⟩
  | brk => exact q3
  | ret v => exact q3
 | false =>
  rw [if_neg Bp];exact wpAny_execs_nil ⟨σ1, H2, I2, q2⟩
end
structure It where
 go : Nat → Hp → Prop
 yld : Nat → Hp → V → Hp → Prop
 stop : Nat → Hp → Prop
def Wv (X : Cx) (pins : List (Addr × Obj)) (H : Hp) (b : Addr) : Prop :=
 H b = none ∧ b ≠ X.env.locals ∧ b ∉ X.fs ∧ (b ∈ X.ex ∨ X.s_0.heap.objs.size ≤ b) ∧ (∀ x c, X.env.cells.lookup x = some c → c ≠ b) ∧ ∀ p ∈ X.pn ++ pins, p.1 ≠ b
theorem Inv.fpOk {X : Cx} {pins : List (Addr × Obj)} {σ : St} {H H' : Hp} {s : Shared} {b : Addr} (I : Inv X pins σ H s) (hb : s.heap.objs.size ≤ b) (hn : H' b = none) : Wv X pins H' b := by
 refine ⟨hn, Vl (Bs I.lt hb), I.nofs hb, .inr (Bz I.sz hb), fun x c e z => ?_, fun p hp z => ?_⟩
 ·obtain ⟨v, q⟩ := I.cell x c e;exact absurd (Bs q.lt (by rw [z]; exact hb)) (Ek _)
 ·exact absurd (Bs (Heap.lt_size (I.pin p hp).1) (by rw [z]; exact hb)) (Ek _)
structure Afe (P : Program) (w : World) (K : Ad) (tg : Expr) (J : It) (fp : List Addr) (it : Addr) (tn : Nat → Heap → Prop) : Prop where
 mem : it ∈ fp
 obj : ∀ i h, tn i h → ∀ b ∈ fp, ∃ o, h.get? b = some o ∧ ∀ v, o.data ≠ .cell v
 keep : ∀ i h h', tn i h → (∀ b ∈ fp, ∀ o, h.get? b = some o → h'.get? b = some o) → tn i h'
 item : ∀ (X : Cx), X.prog = P → X.w = w → X.K = K → X.calm = true → ∀ (i : Nat) (pins : List (Addr × Obj)) (s : Shared) (σ : St) (H : Hp) (E : Value → Shared → Prop), Inv X pins σ H s → (∀ b ∈ fp, Wv X pins H b) → tn i s.heap → J.go i H →
  wpAny (model P w) X.A (pyNext (.ref it)) (fun r s1 => ∃ u, r = some u ∧
   wpAny (model P w) X.A (letOwnedTupleGo tg (.ref it) u) (fun _ s2 => ∃ x H', Inv X pins σ H' s2 ∧ Df x u ∧ J.yld i H x H' ∧ tn (i + 1) s2.heap ∧ ∀ b ∈ fp, H' b = none) E s1) E s
 done : ∀ (X : Cx), X.prog = P → X.w = w → X.K = K → X.calm = true → ∀ (i : Nat) (pins : List (Addr × Obj)) (s : Shared) (σ : St) (H : Hp) (E : Value → Shared → Prop), Inv X pins σ H s → (∀ b ∈ fp, Wv X pins H b) → tn i s.heap → J.stop i H →
  wpAny (model P w) X.A (pyNext (.ref it)) (fun r s1 => r = none ∧ Inv X pins σ H s1) E s
 self : ∀ (A : Around) (i : Nat) (s : Shared) (Q : Value → Shared → Prop) (E : Value → Shared → Prop), tn i s.heap → Q (.ref it) s → wpAny (model P w) A (pyIter (.ref it)) Q E s
abbrev TI := St → Hp → (It → Hp → Prop) → Prop
def PIE (X : Cx) (pins : List (Addr × Obj)) (σ : St) (tg : Expr) (R : It → Hp → Prop) (itv : Value) (s2 : Shared) : Prop :=
 ∃ (it : Addr) (fp : List Addr) (tn : Nat → Heap → Prop) (J : It) (H' : Hp), itv = .ref it ∧ Inv X pins σ H' s2 ∧ Afe X.prog X.w X.K tg J fp it tn ∧ tn 0 s2.heap ∧ (∀ b ∈ fp, Wv X pins H' b) ∧ R J H'
def PI (X : Cx) (tg iter : Expr) (wi : TI) : Prop :=
 ∀ (pins : List (Addr × Obj)) (s : Shared) (σ : St) (H : Hp) (R : It → Hp → Prop), Inv X pins σ H s → wi σ H R →
  wpAny (model X.prog X.w) X.A (eval iter X.env) (fun v s1 => wpAny (model X.prog X.w) X.A (pyIter v) (PIE X pins σ tg R) X.xe s1) X.xe s
theorem Ahs {M : Model} {A : Around} {E : Value → Shared → Prop} {s : Shared} {tg : Expr} {it : Addr} {u : Value} {o : Obj} {n : String} {vs : Array Value} {Q : Unit → Shared → Prop} (ho : s.heap.get? it = some o) (hc : o.cls = .type n) (hd : o.data = .fields vs)
    (hn : ["enumerate", "zip", "dict_itemiterator", "dict_reverseitemiterator", "odict_iterator", "itertools.zip_longest", "itertools.pairwise"].contains n = false) (hQ : Q () s) : wpAny M A (letOwnedTupleGo tg (.ref it) u) Q E s := by
  unfold letOwnedTupleGo
  cases tg <;> first
    | exact wpAny_pure hQ
    | (cases u <;> first
        | exact wpAny_pure hQ
        | (refine wpAny_bind (wpAny_load ho ?_)
           rw [hc, hd];show wpAny M A (if (["enumerate", "zip", "dict_itemiterator", "dict_reverseitemiterator", "odict_iterator", "itertools.zip_longest", "itertools.pairwise"].contains n && vs[0]? == some (rawInt _)) = true then _ else _) Q E s;rw [if_neg (by intro h; rw [hn, Bool.false_and] at h; cases h)];exact wpAny_pure hQ))
def Itl (K : Ad) (a : Addr) : It :=
 ⟨fun i H => ∃ xs x, SqL K H a xs ∧ xs[i]? = some x, fun i H x H' => H' = H ∧ ∀ xs, SqL K H a xs → xs[i]? = some x, fun i H => ∃ xs, SqL K H a xs ∧ xs.length ≤ i⟩
def Itt (K : Ad) (a : Addr) : It :=
 ⟨fun i H => ∃ xs x, SqT K H a xs ∧ xs[i]? = some x, fun i H x H' => H' = H ∧ ∀ xs, SqT K H a xs → xs[i]? = some x, fun i H => ∃ xs, SqT K H a xs ∧ xs.length ≤ i⟩
theorem Aav {P : Program} {w : World} {K : Ad} {tg : Expr} (a it : Addr) : Afe P w K tg (Itl K a) [it] it (fun i h => h.IsListIter it a i) where
 mem := by simp
 obj := fun i h st b hb => by
  have e : b = it := by simpa using hb
  subst e;obtain ⟨o, e, c, d⟩ := st;exact ⟨o, e, fun v z => by rw [d] at z; cases z⟩
 keep := fun i h h' st k => st.at fun o e => k it (by simp) o e
 item := by
  intro X hP hw hK hc i pins s σ H E I hf st hg;subst hP hw hK;obtain ⟨xs, x, hq, hx⟩ := hg;obtain ⟨its, rv, p, hz⟩ := I.list hq;obtain ⟨u, hu, ru⟩ := rv.get hx;obtain ⟨f0, f1, f2, f3, f4, f5⟩ := hf it (by simp);refine wpAny_pyNext_list_item st p.isList (x := u) (by simpa using hu) fun h' st' sb => ?_;have I1 : Inv X pins σ H { s with heap := h' } := I.turned (t' := s.toks) (fun b o hb e => (sb.2 b hb).trans e) f0 f1 f3 f4 f5;obtain ⟨o, e, c, d⟩ := id st';exact ⟨u, rfl, Ahs (s := { s with heap := h' }) e c d (by decide) ⟨x, H, I1, ru, ⟨rfl, fun ys hy => by rw [I.list_inj hy hq]; exact hx⟩, st', fun b hb => (hf b hb).1⟩⟩
 done := by
  intro X hP hw hK hc i pins s σ H E I hf st hg;subst hP hw hK;obtain ⟨xs, hq, hx⟩ := hg;obtain ⟨its, rv, p, hz⟩ := I.list hq;obtain ⟨f0, f1, f2, f3, f4, f5⟩ := hf it (by simp);have hl := rv.length;exact wpAny_pyNext_list_end (I.ok.hd hc) st p.isList (by simp; omega) fun h' eb => ⟨rfl, I.turned (t' := s.toks) (fun b o hb e => eb b o hb e) f0 f1 f3 f4 f5⟩
 self := fun _ _ _ _ _ st h => wpAny_pyIter_listiter st h
theorem Yo {P : Program} {w : World} {K : Ad} {tg : Expr} (a it : Addr) : Afe P w K tg (Itt K a) [it] it (fun i h => h.IsTupleIter it a i) where
 mem := by simp
 obj := fun i h st b hb => by
  have e : b = it := by simpa using hb
  subst e;obtain ⟨o, e, c, d⟩ := st;exact ⟨o, e, fun v z => by rw [d] at z; cases z⟩
 keep := fun i h h' st k => st.at fun o e => k it (by simp) o e
 item := by
  intro X hP hw hK hc i pins s σ H E I hf st hg;subst hP hw hK;obtain ⟨xs, x, hq, hx⟩ := hg;obtain ⟨its, rv, p, hz⟩ := I.tuple hq;obtain ⟨u, hu, ru⟩ := rv.get hx;obtain ⟨f0, f1, f2, f3, f4, f5⟩ := hf it (by simp);refine wpAny_pyNext_tuple_item st (show s.heap.IsTuple a its.toArray from p) (x := u) (by simpa using hu) fun h' st' sb => ?_;have I1 : Inv X pins σ H { s with heap := h' } := I.turned (t' := s.toks) (fun b o hb e => (sb.2 b hb).trans e) f0 f1 f3 f4 f5;obtain ⟨o, e, c, d⟩ := id st';exact ⟨u, rfl, Ahs (s := { s with heap := h' }) e c d (by decide) ⟨x, H, I1, ru, ⟨rfl, fun ys hy => by rw [I.tuple_inj hy hq]; exact hx⟩, st', fun b hb => (hf b hb).1⟩⟩
 done := by
  intro X hP hw hK hc i pins s σ H E I hf st hg;subst hP hw hK;obtain ⟨xs, hq, hx⟩ := hg;obtain ⟨its, rv, p, hz⟩ := I.tuple hq;obtain ⟨f0, f1, f2, f3, f4, f5⟩ := hf it (by simp);have hl := rv.length;exact wpAny_pyNext_tuple_end (I.ok.hd hc) st (show s.heap.IsTuple a its.toArray from p) (by simp; omega) fun h' eb => ⟨rfl, I.turned (t' := s.toks) (fun b o hb e => eb b o hb e) f0 f1 f3 f4 f5⟩
 self := fun _ _ _ _ _ st h => wpAny_pyIter_tupleiter st h
end L2
namespace L2
open PySem PySem.Spec PyProof.Rows
section
variable {X : Cx} {tg : Expr}
def Akw (K : Ad) (tl : TE) : TI := fun σ H R => tl σ H fun x H1 => ∃ a, x = .ref a ∧ (∃ xs, SqL K H1 a xs) ∧ R (Itl K a) H1
def iTup (K : Ad) (tl : TE) : TI := fun σ H R => tl σ H fun x H1 => ∃ a, x = .ref a ∧ (∃ xs, SqT K H1 a xs) ∧ R (Itt K a) H1
theorem Es {l : Expr} {tl : TE} (hl : PE X l tl) : PI X tg l (Akw X.K tl) := by
 intro pins s σ H R I h;refine thn (hl pins s σ H _ I h) fun v s1 ⟨x, H1, I1, r1, q1⟩ => ?_;obtain ⟨a, e, ⟨xs, hq⟩, q⟩ := q1;subst e
 cases r1
 obtain ⟨its, rv, p, hz⟩ := I1.list hq;refine wpAny_pyIter_list p.isList ?_;refine ⟨s1.heap.objs.size, [s1.heap.objs.size], _, _, H1, rfl, I1.kept (t' := s1.toks) fun b o e => Heap.get?_push_of_some _ e, Aav a _, ⟨_, Heap.get?_push_size _ rfl, rfl, rfl⟩, fun b hb => ?_, q⟩;have e : b = s1.heap.objs.size := by simpa using hb
 subst e;exact I1.fpOk (Ak _) (I1.hok.fresh (Ak _))
theorem Aj0 {l : Expr} {tl : TE} (hl : PE X l tl) : PI X tg l (iTup X.K tl) := by
 intro pins s σ H R I h;refine thn (hl pins s σ H _ I h) fun v s1 ⟨x, H1, I1, r1, q1⟩ => ?_;obtain ⟨a, e, ⟨xs, hq⟩, q⟩ := q1;subst e
 cases r1
 obtain ⟨its, rv, p, hz⟩ := I1.tuple hq;refine wpAny_pyIter_tuple (show s1.heap.IsTuple a its.toArray from p) ?_;refine ⟨s1.heap.objs.size, [s1.heap.objs.size], _, _, H1, rfl, I1.kept (t' := s1.toks) fun b o e => Heap.get?_push_of_some _ e, Yo a _, ⟨_, Heap.get?_push_size _ rfl, rfl, rfl⟩, fun b hb => ?_, q⟩;have e : b = s1.heap.objs.size := by simpa using hb
 subst e;exact I1.fpOk (Ak _) (I1.hok.fresh (Ak _))
def tFor (wi : TI) (g : TG) (tb : TS) : TS := fun D σ H => wi σ H fun J H1 => ∃ W : Nat → Nat → St → Hp → Prop, (∃ m, W 0 m σ H1) ∧ ∀ i m σ H, W i m σ H →
 (J.stop i H ∧ D.nx σ H) ∨ (J.go i H ∧ ∃ N : St → Hp → Prop, (∀ σ' H', N σ' H' → ∃ m', m' < m ∧ W (i + 1) m' σ' H') ∧ ∀ x H', J.yld i H x H' → g x σ H' fun σ2 H2 => tb { D with nx := N, ct := N, bk := D.nx } σ2 H2)
def Wa (fp : List Addr) (h : Heap) : List (Addr × Obj) := fp.filterMap fun b => (h.get? b).map fun o => (b, o)
theorem N8 {fp : List Addr} {h : Heap} {b : Addr} {o : Obj} (hb : b ∈ fp) (e : h.get? b = some o) : (b, o) ∈ Wa fp h := Aao.mpr ⟨b, hb, by rw [e]; rfl⟩
theorem Abl {fp : List Addr} {h : Heap} {p : Addr × Obj} (hp : p ∈ Wa fp h) : p.1 ∈ fp ∧ h.get? p.1 = some p.2 := by
 obtain ⟨b, hb, e⟩ := Aao.mp hp
 cases q : h.get? b with
 | none => rw [q] at e; cases e
 | some o =>
  rw [q] at e;have e' : (b, o) = p := Ah e;subst e';exact ⟨hb, q⟩
theorem Inv.pinned {pins : List (Addr × Obj)} {σ : St} {H : Hp} {s : Shared} {fp : List Addr} (I : Inv X pins σ H s) (hf : ∀ b ∈ fp, Wv X pins H b) (ho : ∀ b ∈ fp, ∃ o, s.heap.get? b = some o ∧ ∀ v, o.data ≠ .cell v) : Inv X (pins ++ Wa fp s.heap) σ H s :=
 I.pins_of fun p hp => (Ba.mp hp).elim (fun z => I.pin p (Cb _ z)) fun z => by
  obtain ⟨hb, e⟩ := Abl z;obtain ⟨f0, f1, f2, _⟩ := hf p.1 hb;obtain ⟨o, e', d⟩ := ho p.1 hb;rw [e] at e'; cases e';exact ⟨e, f0, f1, f2, d⟩
theorem Inv.unpinned {pins pl : List (Addr × Obj)} {σ : St} {H : Hp} {s : Shared} (I : Inv X (pins ++ pl) σ H s) : Inv X pins σ H s := I.pins_of fun p hp => I.pin p (Cb _ (C4 _ hp))
theorem Ht {iter : Expr} {body : List Stmt} {wi : TI} {g : TG} {tb : TS} {pos : Pos} (hp : PassesOwn (model X.prog X.w) X.A X.env X.xe) (hc : X.calm = true) (hi : PI X tg iter wi) (hg : PG X tg g) (hb : PSs X body tb)
  (hs : ∀ x, foldedSetIterable iter X.env x = pure x := by intro _; rfl) : PS X (.For tg iter body [] pos) (tFor wi g tb) := by
 intro pins s σ H D I h;refine wpAny_For (thn (hi pins s σ H _ I h) fun v s1 h1 => thn h1 fun itv s2 h2 => ?_) hs;obtain ⟨it, fp, tn, J, H2, e, I2, T, st2, f2, W, ⟨m0, w0⟩, turn⟩ := h2;subst e;have stat : ∀ {H' : Hp}, (∀ b ∈ fp, H' b = none) → ∀ b ∈ fp, Wv X pins H' b := fun hn b hb => ⟨hn b hb, (f2 b hb).2⟩;refine codeAny_forLoop_any (fun n s' => ∃ i σ' H', Inv X pins σ' H' s' ∧ tn i s'.heap ∧ (∀ b ∈ fp, H' b = none) ∧ W i n σ' H') ?_ m0 ⟨0, σ, H2, I2, st2, fun b hb => (f2 b hb).1, w0⟩;rintro n s3 ⟨i, σ3, H3, I3, st3, fr3, w3⟩
 rcases turn i n σ3 H3 w3 with ⟨stop, qn⟩ | ⟨go, N, hN, step⟩
 ·refine wpAny_passesOwn hp (thn (T.done X rfl rfl rfl hc i pins s3 σ3 H3 X.xe I3 (stat fr3) st3 stop) fun r s4 ⟨hr, I4⟩ => ?_);subst hr;exact wpAny_execs_nil ⟨σ3, H3, I4, qn⟩
 ·refine wpAny_passesOwn hp (thn (T.item X rfl rfl rfl hc i pins s3 σ3 H3 X.xe I3 (stat fr3) st3 go) fun r s4 ⟨u, hr, h4⟩ => ?_);subst hr;refine wpAny_passesOwn hp (thn h4 fun _ s5 ⟨x, H5, I5, r5, y5, st5, fr5⟩ => ?_);have I5' := I5.pinned (stat fr5) (T.obj _ _ st5);refine wpAny_passesOwn hp (thn (hg _ s5 σ3 H5 x u _ I5' r5 (step x H5 y5)) fun _ s6 ⟨σ6, H6, I6, q6⟩ => ?_);refine wpAny_passesOwn hp (thn (hb _ s6 σ6 H6 _ I6 q6) fun f s7 q7 => ?_);have again : ∀ {σ7 : St} {H7 : Hp}, Inv X (pins ++ Wa fp s5.heap) σ7 H7 s7 → N σ7 H7 → ∃ m, m < n ∧ ∃ i σ' H', Inv X pins σ' H' s7 ∧ tn i s7.heap ∧ (∀ b ∈ fp, H' b = none) ∧ W i m σ' H' := fun {σ7 H7} I7 n7 => by
   obtain ⟨m', hm, w7⟩ := hN σ7 H7 n7;refine ⟨m', hm, i + 1, σ7, H7, I7.unpinned, T.keep _ _ _ st5 fun b hb o e => (I7.pin (b, o) (Cb _ (Cb _ (N8 hb e)))).1, fun b hb => ?_, w7⟩;obtain ⟨o, e, d⟩ := T.obj _ _ st5 b hb;exact (I7.pin (b, o) (Cb _ (Cb _ (N8 hb e)))).2.1
  cases f with
  | next => obtain ⟨σ7, H7, I7, n7⟩ := q7; exact again I7 n7
  | cont => obtain ⟨σ7, H7, I7, n7⟩ := q7; exact again I7 n7
  | brk => obtain ⟨σ7, H7, I7, q7⟩ := q7; exact ⟨σ7, H7, I7.unpinned, q7⟩
  | ret v => obtain ⟨x7, σ7, H7, I7, r7, q7⟩ := q7; exact ⟨x7, σ7, H7, I7.unpinned, r7, q7⟩
end
theorem Jw {K : Ad} {a : Addr} {xs : List V} {g : TG} {tb : TS} {D : Aac} {σ : St} {H : Hp} (Pv : Nat → St → Hp → Prop) (h0 : Pv 0 σ H) (hl : ∀ i σ H, i ≤ xs.length → Pv i σ H → SqL K H a xs)
  (hs : ∀ i x σ H, xs[i]? = some x → Pv i σ H → g x σ H fun σ2 H2 => tb { D with nx := Pv (i + 1), ct := Pv (i + 1), bk := D.nx } σ2 H2) (hd : ∀ σ H, Pv xs.length σ H → D.nx σ H) :
  ∃ W : Nat → Nat → St → Hp → Prop, (∃ m, W 0 m σ H) ∧ ∀ i m σ H, W i m σ H →
   ((Itl K a).stop i H ∧ D.nx σ H) ∨ ((Itl K a).go i H ∧ ∃ N : St → Hp → Prop, (∀ σ' H', N σ' H' → ∃ m', m' < m ∧ W (i + 1) m' σ' H') ∧ ∀ x H', (Itl K a).yld i H x H' → g x σ H' fun σ2 H2 => tb { D with nx := N, ct := N, bk := D.nx } σ2 H2) := by
 refine ⟨fun i m σ H => m = xs.length - i ∧ i ≤ xs.length ∧ Pv i σ H, ⟨xs.length, by simp, B7 _, h0⟩, ?_⟩;rintro i m σ H ⟨rfl, hi, p⟩;have q := hl i σ H hi p
 by_cases hlt : i < xs.length
 ·refine .inr ⟨⟨xs, xs[i], q, by simp [hlt]⟩, Pv (i + 1), fun σ' H' p' => ⟨xs.length - (i + 1), by omega, rfl, hlt, p'⟩, fun x H' y => ?_⟩;obtain ⟨e, y⟩ := y;subst e;exact hs i x σ _ (y xs q) p
 ·have e : i = xs.length := by omega
  subst e;exact .inl ⟨⟨xs, q, Ak _⟩, hd σ H p⟩
end L2
namespace L2
open PySem PySem.Spec PyProof.Rows
abbrev R2 := V → V → Hp → VK → Prop
def OpR (X : Cx) (f : Value → Value → Sem Value) (r : R2) : Prop :=
 ∀ (pins : List (Addr × Obj)) (s : Shared) (σ : St) (H : Hp) (x y : V) (v u : Value) (Q : VK), Inv X pins σ H s → Df x v → Df y u → r x y H Q →
  wpAny (model X.prog X.w) X.A (f v u) (EP X pins σ Q) X.xe s
def UnR (X : Cx) (f : Value → Sem Value) (r : V → Hp → VK → Prop) : Prop :=
 ∀ (pins : List (Addr × Obj)) (s : Shared) (σ : St) (H : Hp) (x : V) (v : Value) (Q : VK), Inv X pins σ H s → Df x v → r x H Q →
  wpAny (model X.prog X.w) X.A (f v) (EP X pins σ Q) X.xe s
def Sh (X : Cx) (f : Value) (r : List V → Hp → VK → Prop) : Prop :=
 ∀ (pins : List (Addr × Obj)) (s : Shared) (σ : St) (H : Hp) (xs : List V) (us : List Value) (Q : VK), Inv X pins σ H s → Cy xs us → r xs H Q →
  wpAny (model X.prog X.w) X.A (call f us) (EP X pins σ Q) X.xe s
def tOp (r : R2) (ta tb : TE) : TE := fun σ H Q => ta σ H fun x H1 => tb σ H1 fun y H2 => r x y H2 Q
def tUn (r : V → Hp → VK → Prop) (ta : TE) : TE := fun σ H Q => ta σ H fun x H1 => r x H1 Q
def rI (C : Int → Int → Prop) (g : Int → Int → V) : R2 := fun x y H Q => ∃ i j, x = .int i ∧ y = .int j ∧ C i j ∧ Q (g i j) H
def rI0 (g : Int → Int → V) : R2 := fun x y H Q => ∃ i j, x = .int i ∧ y = .int j ∧ Q (g i j) H
def rU (g : Int → V) : V → Hp → VK → Prop := fun x H Q => ∃ i, x = .int i ∧ Q (g i) H
section
variable {X : Cx} {a b c : Expr} {ta tb tc : TE} {pos : Pos}
theorem binT (ha : PE X a ta) (hb : PE X b tb) {pins : List (Addr × Obj)} {s : Shared} {σ : St} {H : Hp} {R : V → V → Hp → Prop} (I : Inv X pins σ H s)
  (h : ta σ H fun x H1 => tb σ H1 fun y H2 => R x y H2) {Q : Value → Shared → Prop} {f : Value → Value → Sem Value}
  (hf : ∀ v u s2 x y H2, Inv X pins σ H2 s2 → Df x v → Df y u → R x y H2 → wpAny (model X.prog X.w) X.A (f v u) Q X.xe s2) :
  wpAny (model X.prog X.w) X.A (eval a X.env) (fun v s₁ => wpAny (model X.prog X.w) X.A (eval b X.env) (fun u s₂ => wpAny (model X.prog X.w) X.A (f v u) Q X.xe s₂) X.xe s₁) X.xe s := by
 refine thn (ha pins s σ H _ I h) fun v s1 ⟨x, H1, I1, r1, q1⟩ => ?_;refine thn (hb pins s1 σ H1 _ I1 q1) fun u s2 ⟨y, H2, I2, r2, q2⟩ => ?_;exact hf v u s2 x y H2 I2 r1 r2 q2
theorem Et {op : Operator} {r : R2} (ho : OpR X (binaryOp op) r) (ha : PE X a ta) (hb : PE X b tb) : PE X (.BinOp a op b pos) (tOp r ta tb) := by
 intro pins s σ H Q I h;exact wpAny_BinOp (binT ha hb I h fun v u s2 x y H2 I2 rx ry q => ho pins s2 σ H2 x y v u Q I2 rx ry q)
theorem Aj2 {op : UnaryOp} {r : V → Hp → VK → Prop} (ho : UnR X (unaryOp op) r) (ha : PE X a ta) : PE X (.UnaryOp op a pos) (tUn r ta) := by
 intro pins s σ H Q I h;exact UnaryOp_ (thn (ha pins s σ H _ I h) fun v s1 ⟨x, H1, I1, r1, q1⟩ => ho pins s1 σ H1 x v Q I1 r1 q1)
theorem opI {f : Value → Value → Sem Value} {C : Int → Int → Prop} {g : Int → Int → Int}
  (rule : ∀ (i j : Int) (t u : Tok) (s : Shared) (Q : Value → Shared → Prop) (E : Value → Shared → Prop), C i j → Q (.int (g i j) s.toks) { s with toks := s.toks + 1 } → wpAny (model X.prog X.w) X.A (f (.int i t) (.int j u)) Q E s) :
  OpR X f (rI C fun i j => .int (g i j)) := by
 intro pins s σ H x y v u Q I rx ry h;obtain ⟨i, j, rfl, rfl, hc, q⟩ := h;obtain ⟨t, rfl⟩ := rx;obtain ⟨t', rfl⟩ := ry;exact rule i j t t' s _ _ hc ⟨.int (g i j), H, I.tok _, ⟨_, rfl⟩, q⟩
theorem Aj7 {f : Value → Value → Sem Value} {g : Int → Int → Int}
  (rule : ∀ (i j : Int) (t u : Tok) (s : Shared) (Q : Value → Shared → Prop) (E : Value → Shared → Prop), Q (.int (g i j) s.toks) { s with toks := s.toks + 1 } → wpAny (model X.prog X.w) X.A (f (.int i t) (.int j u)) Q E s) :
  OpR X f (rI0 fun i j => .int (g i j)) := by
 intro pins s σ H x y v u Q I rx ry h;obtain ⟨i, j, rfl, rfl, q⟩ := h;obtain ⟨t, rfl⟩ := rx;obtain ⟨t', rfl⟩ := ry;exact rule i j t t' s _ _ ⟨.int (g i j), H, I.tok _, ⟨_, rfl⟩, q⟩
theorem Aj8 {f : Value → Value → Sem Value} {g : Int → Int → Bool}
  (rule : ∀ (i j : Int) (t u : Tok) (s : Shared) (Q : Value → Shared → Prop) (E : Value → Shared → Prop), Q (.bool (g i j)) s → wpAny (model X.prog X.w) X.A (f (.int i t) (.int j u)) Q E s) :
  OpR X f (rI0 fun i j => .bl (g i j)) := by
 intro pins s σ H x y v u Q I rx ry h;obtain ⟨i, j, rfl, rfl, q⟩ := h;obtain ⟨t, rfl⟩ := rx;obtain ⟨t', rfl⟩ := ry;exact rule i j t t' s _ _ ⟨.bl (g i j), H, I, rfl, q⟩
theorem Yn (k : Nat) : (0 : Int) ≤ 2 ^ k := by
 rw [two_pow_cast];exact Int.natCast_nonneg _
theorem J9 : OpR X (binaryOp .Add) (rI0 fun i j => .int (i + j)) := Aj7 fun _ _ _ _ _ _ _ q => add_int q
theorem K2 : OpR X (binaryOp .Sub) (rI0 fun i j => .int (i - j)) := Aj7 fun _ _ _ _ _ _ _ q => sub_int q
theorem Aj5 : OpR X (binaryOp .RShift) (rI (fun _ j => 0 ≤ j) fun i j => .int (i / 2 ^ j.toNat)) := opI fun i j _ _ _ _ _ hc q =>
 rshift_int hc (by rw [Int.fdiv_eq_ediv_of_nonneg i (Yn _)]; exact q)
theorem Aj6 : OpR X (binaryOp .BitAnd) (rI0 fun i j => .int (Builtin.bitAnd i j)) := Aj7 fun _ _ _ _ _ _ _ q => and_int q
theorem Akn : OpR X (binaryOp .BitOr) (rI0 fun i j => .int (Builtin.bitOr i j)) := Aj7 fun _ _ _ _ _ _ _ q => or_int q
end
def scal : V → V → Bool
 | .non, .non => true | .non, .int _ => true | .int _, .non => true | .non, .bl _ => true | .bl _, .non => true | .non, .str _ => true | .str _, .non => true
 | .int _, .int _ => true | .bl _, .bl _ => true | .str _, .str _ => true | .byt _, .byt _ => true
 | .int _, .str _ => true | .str _, .int _ => true | .bl _, .str _ => true | .str _, .bl _ => true
 | _, _ => false
def rEq : R2 := fun x y H Q => scal x y = true ∧ Q (.bl (decide (x = y))) H
theorem Ahy {i j : Int} : decide (V.int i = V.int j) = (i == j) := by
 rw [Vt];simp
theorem Ajz {i j : Bool} : decide (V.bl i = V.bl j) = (i == j) := by
 rw [Vt];simp
theorem Ahx {i j : Str} : decide (V.str i = V.str j) = (i == j) := by
 rw [Vt];simp
theorem Ahz {i j : Array UInt8} : decide (V.byt i = V.byt j) = (i.toList == j.toList) := by
 rw [Vt]
 cases i
 cases j
 simp
section
variable {X : Cx} {a b c : Expr} {ta tb tc : TE} {pos : Pos}
theorem Gi {pins : List (Addr × Obj)} {σ : St} {H : Hp} {s : Shared} {Q : VK} {k k' : Bool} (I : Inv X pins σ H s) (q : Q (.bl k) H) (e : k = k') : EP X pins σ Q (.bool k') s := by
 subst e;exact ⟨.bl k, H, I, rfl, q⟩
theorem M8 : OpR X (compareOp .Eq) rEq := by
 intro pins s σ H x y v u Q I rx ry h;obtain ⟨hs, q⟩ := h
 cases x with
 | non =>
  cases rx
  cases y with
  | non => cases ry; exact PySem.EqNone.eq_none_none (Gi I q (by simp))
  | bl j => cases ry; exact PySem.EqNone.eq_none_bool (Gi I q (by simp))
  | int j => obtain ⟨t', rfl⟩ := ry; exact PySem.EqNone.eq_none_int (Gi I q (by simp))
  | str j => obtain ⟨t', rfl⟩ := ry; exact PySem.EqNone.eq_none_str (Gi I q (by simp))
  | _ => exact absurd (show false = true from hs) Bp
 | bl i =>
  cases rx
  cases y with
  | non => cases ry; exact PySem.EqNone.eq_bool_none (Gi I q (by simp))
  | bl j => cases ry; exact eq_bool (Gi I q Ajz)
  | str j => obtain ⟨t', rfl⟩ := ry; exact PySem.EqMixed.eq_bool_str (Gi I q (by simp))
  | _ => exact absurd (show false = true from hs) Bp
 | int i =>
  obtain ⟨t, rfl⟩ := rx
  cases y with
  | non => cases ry; exact PySem.EqNone.eq_int_none (Gi I q (by simp))
  | int j => obtain ⟨t', rfl⟩ := ry; exact eq_int (Gi I q Ahy)
  | str j => obtain ⟨t', rfl⟩ := ry; exact PySem.EqMixed.eq_int_str (Gi I q (by simp))
  | _ => exact absurd (show false = true from hs) Bp
 | str i =>
  obtain ⟨t, rfl⟩ := rx
  cases y with
  | non => cases ry; exact PySem.EqNone.eq_str_none (Gi I q (by simp))
  | bl j => cases ry; exact PySem.EqMixed.eq_str_bool (Gi I q (by simp))
  | int j => obtain ⟨t', rfl⟩ := ry; exact PySem.EqMixed.eq_str_int (Gi I q (by simp))
  | str j => obtain ⟨t', rfl⟩ := ry; exact eq_str (Gi I q Ahx)
  | _ => exact absurd (show false = true from hs) Bp
 | byt i =>
  obtain ⟨t, rfl⟩ := rx
  cases y with
  | byt j => obtain ⟨t', rfl⟩ := ry; exact PySem.W.eq_bytes (Gi I q Ahz)
  | _ => exact absurd (show false = true from hs) Bp
 | _ => cases y <;> exact absurd (show false = true from hs) Bp
theorem Kb : OpR X (compareOp .Lt) (rI0 fun i j => .bl (decide (i < j))) := Aj8 fun _ _ _ _ _ _ _ q => lt_int q
theorem Aed : OpR X (compareOp .LtE) (rI0 fun i j => .bl (decide (i ≤ j))) := Aj8 fun _ _ _ _ _ _ _ q => le_int q
theorem Pr : OpR X (compareOp .Gt) (rI0 fun i j => .bl (decide (j < i))) := Aj8 fun _ _ _ _ _ _ _ q => gt_int q
theorem Abb : OpR X (compareOp .GtE) (rI0 fun i j => .bl (decide (j ≤ i))) := Aj8 fun _ _ _ _ _ _ _ q => ge_int q
theorem Ag7 : OpR X (compareOp .Is) (fun x y H Q => y = .non ∧ Q (.bl (decide (x = .non))) H) := by
 intro pins s σ H x y v u Q I rx ry h;obtain ⟨rfl, q⟩ := h
 cases ry
 refine is_none_gen (Gi I q ?_)
 cases x <;> first
  | (cases rx; rfl)
  | (obtain ⟨t, rfl⟩ := rx; rfl)
theorem Ah9 : OpR X (compareOp .IsNot) (fun x y H Q => y = .non ∧ Q (.bl (!decide (x = .non))) H) := by
 intro pins s σ H x y v u Q I rx ry h;obtain ⟨rfl, q⟩ := h
 cases ry
 refine isnot_none_gen (Gi I q ?_)
 cases x <;> first
  | (cases rx; rfl)
  | (obtain ⟨t, rfl⟩ := rx; rfl)
theorem Cq (b : Expr) {op : CmpOp} (h : op ≠ .In := by decide) (h2 : op ≠ .NotIn := by decide) : behindInMarks op b = false := by
 have e1 : (op == CmpOp.In) = false := by cases op <;> first | rfl | exact absurd rfl h
 have e2 : (op == CmpOp.NotIn) = false := by cases op <;> first | rfl | exact absurd rfl h2
 cases b <;> simp [behindInMarks, e1, e2]
theorem Ji {op : CmpOp} {r : R2} (ho : OpR X (compareOp op) r) (ha : PE X a ta) (hb : PE X b tb) (hm : behindInMarks op b = false) : PE X (.Compare a [op] [b] pos) (tOp r ta tb) := by
 intro pins s σ H Q I h;exact wpAny_Compare1 (binT ha hb I h fun v u s2 x y H2 I2 rx ry q => ho pins s2 σ H2 x y v u Q I2 rx ry q) hm
def Adx (t : TE) : TT := fun σ H Q => t σ H fun x H' => ∃ k, x = .bl k ∧ Q k H'
theorem B6 {op : CmpOp} {r : R2} (ho : OpR X (compareOp op) r) (ha : PE X a ta) (hb : PE X b tb) (hm : behindInMarks op b = false) : PT X (.Compare a [op] [b] pos) (Adx (tOp r ta tb)) := by
 intro pins s σ H Q I h;refine wpAny_isTrue_Compare1 (thn (ha pins s σ H _ I h) fun v s1 ⟨x, H1, I1, r1, q1⟩ => thn (hb pins s1 σ H1 _ I1 q1) fun u s2 ⟨y, H2, I2, r2, q2⟩ =>
  thn (ho pins s2 σ H2 x y v u _ I2 r1 r2 q2) fun c s3 ⟨z, H3, I3, r3, k, e, q3⟩ => ?_) hm
 subst e
 cases r3
 exact wpAny_truthy_bool ⟨H3, I3, q3⟩
theorem Ad1 : (sizeLine : Nat) < 2 ^ 63 := by rw [sizeLine_eq]; decide
theorem Adr {x : V} {us : List Value} (r : Cy [x] us) : ∃ u, us = [u] ∧ Df x u := by
 cases r with
 | cons r1 r2 => cases r2; exact ⟨_, rfl, r1⟩
theorem Akd {x y : V} {us : List Value} (r : Cy [x, y] us) : ∃ u w', us = [u, w'] ∧ Df x u ∧ Df y w' := by
 cases r with
 | cons r1 r2 =>
  cases r2 with
  | cons r3 r4 => cases r4; exact ⟨_, _, rfl, r1, r3⟩
theorem Jc (hc : X.calm = true) : Sh X (.builtin "max") (fun xs H Q => ∃ i j, xs = [.int i, .int j] ∧ Q (.int (if j > i then j else i)) H) := by
 intro pins s σ H xs us Q I r h;obtain ⟨i, j, rfl, q⟩ := h;obtain ⟨u, w', rfl, ⟨t, rfl⟩, ⟨t', rfl⟩⟩ := Akd r;refine max_two_ints (I.ok.hd hc) fun h' tk k => ⟨_, H, I.kept k, ?_, q⟩
 by_cases hj : j > i
 ·rw [if_pos hj, if_pos hj]; exact ⟨_, rfl⟩
 ·rw [if_neg hj, if_neg hj]; exact ⟨_, rfl⟩
theorem Fv : Sh X (.type "int") (fun xs H Q => (∃ i, xs = [.int i] ∧ Q (.int i) H) ∨ ∃ k, xs = [.bl k] ∧ Q (.int (if k then 1 else 0)) H) := by
 intro pins s σ H xs us Q I r h
 rcases h with ⟨i, rfl, q⟩ | ⟨k, rfl, q⟩
 ·obtain ⟨u, rfl, t, rfl⟩ := Adr r;exact call_int_int ⟨.int i, H, I, ⟨_, rfl⟩, q⟩
 ·obtain ⟨u, rfl, r1⟩ := Adr r
  cases r1
  exact call_int_bool ⟨.int (if k then 1 else 0), H, I.tok _, ⟨_, rfl⟩, q⟩
end
end L2
namespace L2
open PySem PySem.Spec PyProof.Rows
structure Afg (h : Heap) (x dx C : Addr) (mA : Str → Option Value) : Prop where
 obj : h.get? x = some (Fy C dx)
 ns : h.Ns1 dx mA
 ne : dx ≠ x
theorem Abp {h : Heap} {dx : Addr} {mA : Str → Option Value} (n : h.Ns1 dx mA) : ∃ od, h.get? dx = some od ∧ ∀ name, Xx name od = some (mA name) := by
 obtain ⟨o, es, ep, ho, hd, hk, _, hm⟩ := n;refine ⟨o, ho, fun name => ?_⟩;have e := hm name;unfold nsFind findBy at e;rw [← Array.find?_toList] at e;unfold Xx;rw [hd]
 dsimp only
 split
 ·rename_i y q;rw [q] at e;exact congrArg some e
 ·rename_i q;rw [q] at e;have a : es.toList.any (·.refKey) = false := by
   rw [List.any_eq_false];intro y hy;obtain ⟨z, t, hkey⟩ := hk y (Array.mem_toList_iff.mp hy);simp [DictEntry.refKey, hkey]
  have a' : ¬ es.toList.any (·.refKey) = true := by rw [a]; exact Bp
  rw [if_neg a'];exact congrArg some e
theorem Afg.look {h : Heap} {x dx C : Addr} {mA : Str → Option Value} (I : Afg h x dx C mA) : ∃ od, PySem.W.InstAt h x (Fy C dx) C (some od) ∧ ∀ name, Xx name od = some (mA name) :=
 let ⟨od, ho, hl⟩ := Abp I.ns
 ⟨od, ⟨I.obj, rfl, rfl, ho⟩, hl⟩
section
variable {prog : Program} {w : World} {A : Around} {E : Value → Shared → Prop} {s : Shared} {K : Ad} {x dx C f : Addr} {mA : Str → Option Value} {name : Str} {v : Value}
theorem Aht {expr : Bool} {Q : Value → Shared → Prop} (X : K.In s.heap) (I : Afg s.heap x dx C mA) (hg : Lb K C name = true) (hh : Rc K C = true)
  (ha : Dy K (.ref C) name = some none) (hv : mA name = some v) (hv' : PySem.W.handedIn v = true) (h : Q v { s with toks := s.toks + 1 }) :
  wpAny (model prog w) A (getAttr (.ref x) name expr) Q E s := by
 obtain ⟨od, J, hl⟩ := I.look;exact PySem.W.get_value X J (Aae hg).1 (PySem.W.findObj_own hh ha rfl (by rw [hl, hv])) hv' h
theorem Aez {pl : Sem Bool} {Q : Value × List Value → Shared → Prop} (X : K.In s.heap) (I : Afg s.heap x dx C mA) (hg : Lb K C name = true)
  (hf : Dy K (.ref C) name = some (some (.ref f))) (ht : Vi K (.ref f) = true) (hv : mA name = none) (h : Q (.ref f, [.ref x]) s) :
  wpAny (model prog w) A (getMethod (.ref x) name pl) Q E s := by
 obtain ⟨od, J, hl⟩ := I.look;exact PySem.W.method_fn X J (Aae hg).1 (Aae hg).2 hf (beq_iff_eq.mp ht) (by show (Xx name od).map (·.isSome) = some false; rw [hl, hv]; rfl) h
theorem Agt {ns : List Str} {Q : Unit → Shared → Prop} (X : K.In s.heap) (I : Afg s.heap x dx C mA)
  (hs : Dy K (.ref C) "__setattr__" = some (some (.builtin "object.__setattr__"))) (hp : Adi K C = true) (ht : Agh K C name = some none) (hh : Rc K C = true)
  (hw : PySem.Within mA ns) (hsz : ns.length ≤ sizeLine)
  (h : ∀ h', Afg h' x dx C (fun y => if y = name then some v else mA y) → Heap.SameBut dx s.heap h' → Q () { s with heap := h', toks := s.toks + 2 }) :
  wpAny (model prog w) A (setAttr (.ref x) name v) Q E s := by
 obtain ⟨od, J, hl⟩ := I.look;refine PySem.W.set_plain X J hs (PySem.W.osa_open (s := { s with toks := s.toks + 1 }) (r := none) X J hp ht fun b => ?_);obtain ⟨cd, hc, hd'⟩ := PySem.W.any_some hh;have hx : s.heap.get? x = some ⟨.ref C, some dx, .plain, #[]⟩ := I.obj;refine wpAny_bind (wpAny_pure (wpAny_bind (wpAny_bind (wpAny_loadPart hx (wpAny_bind (PySem.W.Looks.here (s := { s with toks := s.toks + 1 }) (PySem.W.looks_clsIn X hc) ?_))))));rw [hd'];refine wpAny_pure (a := some dx) (wpAny_bind (wpAny_pure (wpAny_bind ?_)));refine wpAny_nsSet1 (s := { s with toks := s.toks + 1 }) I.ns fun h' hn2 hs2 => ?_;obtain ⟨oD, esD, epD, hoD, hdD, hcD⟩ := hn2.count (PySem.Within.cons name v hw);refine wpAny_bind (wpAny_lookBehind hoD (by rw [hdD]; exact pastItsLine_dict (Bz hcD (by rw [A2]; omega))) ?_);exact wpAny_pure (h _ ⟨(hs2.2 _ (Rf I.ne)).trans I.obj, hn2, I.ne⟩ hs2)
theorem Aes {R : Result → Shared → Prop} {vs : List Value} {kw : List (Str × Value)} (X : K.In s.heap) (hm : Agi K C = true)
  (hi : Dy K (.ref C) "__init__" = some (some (.ref f))) (hf : PySem.W.typeIn K (.ref f) = some (.type "function"))
  (h : codeAny (model prog w) (A.under (.builtin "type.__call__" ⟨.ref C :: vs, kw⟩)) (.call (.ref f) ⟨.ref (s.heap.objs.size + 1) :: vs, kw⟩) (PySem.W.InitBack (s.heap.objs.size + 1) R)
   { s with heap := (s.heap.push El).push (Fy C s.heap.objs.size) }) :
  codeAny (model prog w) A (.call (.ref C) ⟨vs, kw⟩) R s := by
 obtain ⟨hh, g, d, t, os⟩ := s;exact PySem.W.make_core (PySem.W.makes_of X hm) (PySem.W.looks_findIn X hi) (fun self => PySem.W.bind_fn X self hf) (.inl rfl) h
end
def J8 (f : Str) (v : V) : List (Str × V) → List (Str × V)
 | [] => [(f, v)]
 | (g, x) :: r => if g = f then (g, v) :: r else (g, x) :: J8 f v r
theorem P9 (f g : Str) (v : V) : ∀ fs : List (Str × V), (J8 f v fs).lookup g = if g = f then some v else fs.lookup g
 | [] => by
  show Ee g [(f, v)] = _
  by_cases h : g = f
  ·have hb : (g == f) = true := beq_iff_eq.mpr h;simp only [Ee, hb, if_pos h]
  ·have hb : (g == f) = false := beq_eq_false_iff_ne.mpr h;simp only [Ee, hb, if_neg h]
 | (k, x) :: r => by
  have ih := P9 f g v r;rw [show J8 f v ((k, x) :: r) = (if k = f then (k, v) :: r else (k, x) :: J8 f v r) from rfl]
  by_cases hk : k = f
  ·rw [if_pos hk]
   by_cases h : g = k
   ·have hb : (g == k) = true := beq_iff_eq.mpr h;simp only [Ee, hb, if_pos (h.trans hk)]
   ·have hb : (g == k) = false := beq_eq_false_iff_ne.mpr h;simp only [Ee, hb, if_neg (fun e : g = f => h (e.trans hk.symm))]
  ·rw [if_neg hk]
   by_cases h : g = k
   ·have hb : (g == k) = true := beq_iff_eq.mpr h;simp only [Ee, hb, if_neg (fun e : g = f => hk (h.symm.trans e))]
   ·have hb : (g == k) = false := beq_eq_false_iff_ne.mpr h;simp only [Ee, hb];exact ih
theorem Q2 (f : Str) (v : V) : ∀ fs : List (Str × V), f ∈ (J8 f v fs).map (·.1) ∧ ∀ g, g ∈ fs.map (·.1) → g ∈ (J8 f v fs).map (·.1)
 | [] => ⟨by simp [J8], fun g h => by simp at h⟩
 | (k, x) :: r => by
  obtain ⟨i1, i2⟩ := Q2 f v r;rw [show J8 f v ((k, x) :: r) = (if k = f then (k, v) :: r else (k, x) :: J8 f v r) from rfl]
  by_cases hk : k = f
  ·rw [if_pos hk];subst hk;exact ⟨by simp, fun g h => by simpa using h⟩
  ·rw [if_neg hk];refine ⟨?_, fun g h => ?_⟩
   ·rw [Bc];exact Am _ i1
   ·rw [Bc] at h ⊢
    rcases Az.mp h with e | e
    ·exact Az.mpr (.inl e)
    ·exact Am _ (i2 g e)
theorem Qa (f : Str) (v : V) : ∀ fs : List (Str × V), (J8 f v fs).length ≤ fs.length + 1
 | [] => by simp [J8]
 | (k, x) :: r => by
  have ih := Qa f v r;rw [show J8 f v ((k, x) :: r) = (if k = f then (k, v) :: r else (k, x) :: J8 f v r) from rfl]
  by_cases hk : k = f
  ·rw [if_pos hk, A2, A2]; omega
  ·rw [if_neg hk, A2, A2]; omega
theorem Nn.some_of {v : V} {o : Option Value} (r : Nn (some v) o) : ∃ u, o = some u ∧ Df v u := by
 cases o with
 | none => exact (show False from r).elim
 | some u => exact ⟨u, rfl, r⟩
theorem Nn.none_of {o : Option Value} (r : Nn none o) : o = none := by
 cases o with
 | none => rfl
 | some u => exact (show False from r).elim
theorem Abw {v : V} {u : Value} (r : Df v u) : PySem.W.handedIn u = true := by
 cases v with
 | non => cases (show u = Value.none from r); rfl
 | bl b => cases (show u = Value.bool b from r); rfl
 | int i => obtain ⟨t, e⟩ := (show ∃ t, u = Value.int i t from r); cases e; rfl
 | str x => obtain ⟨t, e⟩ := (show ∃ t, u = Value.str x t from r); cases e; rfl
 | byt b => obtain ⟨t, e⟩ := (show ∃ t, u = Value.bytes b t from r); cases e; rfl
 | flt b => obtain ⟨t, e⟩ := (show ∃ t, u = Value.float b t from r); cases e; rfl
 | ref a => cases (show u = Value.ref a from r); rfl
 | ty n => cases (show u = Value.type n from r); rfl
section
variable {P : Program} {w : World} {H H' : Hp} {h h' : Heap} {a C dx : Addr} {fs fs' : List (Str × V)}
theorem Yh (hok : HOk P w H h) (e : H a = some (.ins C dx fs)) : ∃ mA, Afg h a dx C mA ∧ (∀ f, Nn (fs.lookup f) (mA f)) ∧ PySem.Within mA (fs.map (·.1)) ∧ fs.length ≤ 1000 ∧ H dx = some (.own a) := by
 obtain ⟨d, z, ne, ob, mA, n, r, q⟩ := (show Fw P w H h a (.ins C dx fs) from hok a _ e);exact ⟨mA, ⟨ob, n, ne⟩, r, q, z, d⟩
end
structure Cls (K : Ad) (C : Addr) : Prop where
 pg : Lb K C Str.empty = true
 hd : Rc K C = true
 po : Adi K C = true
 sa : Dy K (.ref C) "__setattr__" = some (some (.builtin "object.__setattr__"))
theorem Cls.get {K : Ad} {C : Addr} (c : Cls K C) (f : Str) : Lb K C f = true := c.pg
def Je (K : Ad) (C : Addr) (f : Str) : Prop := Dy K (.ref C) f = some none
theorem Je.taker {K : Ad} {C : Addr} {f : Str} (n : Je K C f) : Agh K C f = some none := by
 unfold Agh;rw [show Dy K (.ref C) f = some none from n];rfl
structure Aib (K : Ad) (C : Addr) (m : Str) (f : Addr) : Prop where
 at_ : Dy K (.ref C) m = some (some (.ref f))
 fn : Vi K (.ref f) = true
 kp : Dx K (.ref f) = true
section
variable {X : Cx} {pins : List (Addr × Obj)} {σ : St} {H : Hp} {s : Shared} {a C dx : Addr} {fs : List (Str × V)} {f : Str} {v : V} {A : Around} {E : Value → Shared → Prop}
theorem S7 {b : Bool} {Q : Value → Shared → Prop} (I : Inv X pins σ H s) (e : H a = some (.ins C dx fs)) (c : Cls X.K C) (n : Je X.K C f) (l : fs.lookup f = some v)
  (h : ∀ u s', Inv X pins σ H s' → Df v u → Q u s') : wpAny (model X.prog X.w) A (getAttr (.ref a) f b) Q E s := by
 obtain ⟨mA, O, r, _, _, _⟩ := Yh I.hok e;obtain ⟨u, hu, ru⟩ := Nn.some_of (v := v) (o := mA f) (by rw [← l]; exact r f);exact Aht I.kIn O (c.get f) c.hd n hu (Abw ru) (h u _ (I.tok _) ru)
theorem S6 {m : Str} {g : Addr} {pl : Sem Bool} {Q : Value × List Value → Shared → Prop} (I : Inv X pins σ H s) (e : H a = some (.ins C dx fs)) (c : Cls X.K C) (k : Aib X.K C m g) (l : fs.lookup m = none)
  (h : Q (.ref g, [.ref a]) s) : wpAny (model X.prog X.w) A (getMethod (.ref a) m pl) Q E s := by
 obtain ⟨mA, O, r, _, _, _⟩ := Yh I.hok e;have hn : mA m = none := Nn.none_of (by rw [← l]; exact r m);exact Aez I.kIn O (c.get m) k.at_ k.fn hn h
theorem Sn {y : V} {u : Value} {Q : Unit → Shared → Prop} (I : Inv X pins σ H s) (e : H a = some (.ins C dx fs)) (c : Cls X.K C) (n : Je X.K C f) (hl : fs.length < 1000) (ry : Df y u)
  (h : ∀ s', Inv X pins σ (upd H a (.ins C dx (J8 f y fs))) s' → Q () s') : wpAny (model X.prog X.w) A (setAttr (.ref a) f u) Q E s := by
 obtain ⟨mA, O, r, wi, _, ho⟩ := Yh I.hok e;have hz : (fs.map (·.1)).length ≤ sizeLine := by rw [Ac, sizeLine_eq]; omega
 refine Agt I.kIn O c.sa c.po n.taker c.hd wi hz fun h' O' sb => h _ ?_;have hd : ∃ o, h'.get? dx = some o := let ⟨o, _, _, e', _⟩ := O'.ns; ⟨o, e'⟩
 refine I.write (x := a) (e := dx) (by rw [e]; exact G3) (.inr ho) (fun b q hb z => (sb.2 b hb).trans z) hd ?_;refine ⟨by rw [Aw O.ne]; exact ho, ?_, O.ne, O'.obj, _, O'.ns, fun g => ?_, fun g hg => ?_⟩
 ·have := Qa f y fs; omega
 ·show Nn ((J8 f y fs).lookup g) (if g = f then some u else mA g);rw [P9]
  by_cases q : g = f
  ·rw [if_pos q, if_pos q]; exact ry
  ·rw [if_neg q, if_neg q]; exact r g
 ·by_cases q : g = f
  ·rw [q]; exact (Q2 f y fs).1
  ·refine (Q2 f y fs).2 g (wi g fun z => hg ?_);show (if g = f then some u else mA g) = none;rw [if_neg q]; exact z
theorem Inv.made (I : Inv X pins σ H s) : Inv X pins σ (upd (upd H s.heap.objs.size (.own (s.heap.objs.size + 1))) (s.heap.objs.size + 1) (.ins C s.heap.objs.size []))
  { s with heap := (s.heap.push El).push (Fy C s.heap.objs.size) } := by
 have e1 : (s.heap.push El).get? s.heap.objs.size = some El := Heap.get?_push_size s.heap rfl;have e2 : ((s.heap.push El).push (Fy C s.heap.objs.size)).get? (s.heap.objs.size + 1) = some (Fy C s.heap.objs.size) := by
  have := Heap.get?_push_size (s.heap.push El) (o := Fy C s.heap.objs.size) rfl
  rwa [Heap.size_push] at this
 have e3 : (s.heap.push El).Ns s.heap.objs.size (fun _ => none) := ⟨El, #[], _, e1, rfl, (fun e he => absurd he (by simp)), fun _ => rfl⟩;have I1 := I.laid (a := s.heap.objs.size) (o := .own (s.heap.objs.size + 1)) (h' := s.heap.push El) (t' := s.toks) (fun b u q => Heap.get?_push_of_some _ q) (Ak _) ⟨_, e1⟩;refine I1.laid (a := s.heap.objs.size + 1) (o := .ins C s.heap.objs.size []) (t' := s.toks) (fun b u q => Heap.get?_push_of_some _ q) (Ot (Heap.size_push _ _)) ?_;have ne : s.heap.objs.size ≠ s.heap.objs.size + 1 := Cj (Lc _);refine ⟨by rw [Aw ne, Ao], B7 _, ne, e2, fun _ => none, (Heap.Ns1.of_empty e3).at fun o q => Heap.get?_push_of_some _ q, fun _ => G3, fun y hy => absurd rfl hy⟩
theorem Ai3 {prog : Program} {w : World} {env : Env} {e : Expr} {f : Str} {pos : Pos} {s : Shared} {Q : Value → Shared → Prop} (hb : attributeBase e f env (eval e env) = eval e env)
  (h : wpAny (model prog w) A (eval e env) (fun o s₁ => wpAny (model prog w) A (getAttr o f true) Q E s₁) E s) : wpAny (model prog w) A (eval (.Attribute e f pos) env) Q E s :=
 Attribute_any_ h (by rw [arm_eval_Attribute, hb])
end
def K8 (K : Ad) (ta : TE) (f : Str) : TE := fun σ H Q => ta σ H fun x H1 => ∃ a C dx fs v, x = .ref a ∧ H1 a = some (.ins C dx fs) ∧ Cls K C ∧ Je K C f ∧ fs.lookup f = some v ∧ Q v H1
def sFld (K : Ad) (ta tv : TE) (f : Str) : TS := fun D σ H => tv σ H fun y H1 => ta σ H1 fun x H2 => ∃ a C dx fs, x = .ref a ∧ H2 a = some (.ins C dx fs) ∧ Cls K C ∧ Je K C f ∧ fs.length < 1000 ∧
 D.nx σ (upd H2 a (.ins C dx (J8 f y fs)))
def InOp (X : Cx) (op : Operator) (rd : V → V → Hp → VK → Prop) : Prop :=
 ∀ (pins : List (Addr × Obj)) (s : Shared) (σ : St) (H : Hp) (x y : V) (u v : Value) (Q : VK), Inv X pins σ H s → Df x u → Df y v → rd x y H Q → wpAny (model X.prog X.w) X.A (inplaceOp op u v) (EP X pins σ Q) X.xe s
def Ah0 (K : Ad) (ta tv : TE) (rd : V → V → Hp → VK → Prop) (f : Str) : TS := fun D σ H => ta σ H fun x H1 => ∃ a C dx fs v, x = .ref a ∧ H1 a = some (.ins C dx fs) ∧ Cls K C ∧ Je K C f ∧ fs.lookup f = some v ∧
 tv σ H1 fun y H2 => rd v y H2 fun z H3 => ∃ dx' fs', H3 a = some (.ins C dx' fs') ∧ fs'.length < 1000 ∧ D.nx σ (upd H3 a (.ins C dx' (J8 f z fs')))
section
variable {X : Cx} {o e value : Expr} {f : Str} {pos pos' tpos : Pos} {ta tv : TE}
theorem An (he : PE X e ta) (hb : attributeBase e f X.env (eval e X.env) = eval e X.env) : PE X (.Attribute e f pos) (K8 X.K ta f) := by
 intro pins s σ H Q I h;refine Ai3 hb (thn (he pins s σ H _ I h) fun u s1 ⟨x, H1, I1, rx, a, C, dx, fs, v, ex, ea, c, n, l, q⟩ => ?_);subst ex;obtain rfl : u = Value.ref a := rx;exact S7 I1 ea c n l fun u' s2 I2 ru => ⟨v, H1, I2, ru, q⟩
theorem Bq (ha : PE X o ta) (hv : PE X value tv) (hs : swapsWith value (some (.Attribute o f pos')) pos.line X.env = pure false) : PS X (.Assign [.Attribute o f pos'] value pos) (sFld X.K ta tv f) := by
 intro pins s σ H D I h;refine plainObj_wpAny_Assign_Attribute (thn (hv pins s σ H _ I h) fun u s1 ⟨y, H1, I1, ry, q⟩ => thn (ha pins s1 σ H1 _ I1 q) fun ov s2 ⟨x, H2, I2, rx, a, C, dx, fs, ex, ea, c, n, l, q2⟩ => ?_) hs;subst ex;obtain rfl : ov = Value.ref a := rx;exact Sn I2 ea c n l ry fun s3 I3 => ⟨σ, _, I3, q2⟩
theorem M5 {op : Operator} {rd : V → V → Hp → VK → Prop} (ha : PE X o ta) (hv : PE X value tv) (hop : InOp X op rd) : PS X (.AugAssign (.Attribute o f tpos) op value pos) (Ah0 X.K ta tv rd f) := by
 intro pins s σ H D I h;refine wpAny_AugAssign_AttributeAny (thn (ha pins s σ H _ I h) fun ov s1 ⟨x, H1, I1, rx, a, C, dx, fs, v, ex, ea, c, n, l, q⟩ => ?_);subst ex;obtain rfl : ov = Value.ref a := rx;refine S7 I1 ea c n l fun u s2 I2 ru => thn (hv pins s2 σ H1 _ I2 q) fun w3 s3 ⟨y, H2, I3, ry, q3⟩ => thn (hop pins s3 σ H2 v y u w3 _ I3 ru ry q3) fun w4 s4 ⟨z, H3, I4, rz, dx', fs', ea', l', q4⟩ => ?_;exact Sn I4 ea' c n l' rz fun s5 I5 => ⟨σ, _, I5, q4⟩
def rAdd : V → V → Hp → VK → Prop := fun x y H Q => ∃ i j, x = .int i ∧ y = .int j ∧ Q (.int (i + j)) H
theorem Zx : InOp X .Add rAdd := by
 rintro pins s σ H x y u v Q I rx ry ⟨i, j, rfl, rfl, q⟩;obtain ⟨t, rfl⟩ := (show ∃ t, u = Value.int i t from rx);obtain ⟨t', rfl⟩ := (show ∃ t', v = Value.int j t' from ry);exact PyProof.Rows.iadd_int ⟨.int (i + j), H, I.tok _, ⟨_, rfl⟩, q⟩
end
section
variable {X : Cx} {pins : List (Addr × Obj)} {σ : St} {H : Hp} {s : Shared} {A : Around} {E : Value → Shared → Prop} {Q : Value → Shared → Prop} {c : Value} {b : Bool}
end
end L2
namespace L2
open PySem PySem.Spec PyProof.Rows
structure Fx (k : Nat) (A : Around) : Prop where
 hd : A.handled = none
 dp : A.depth + 3 * k + 5 < recursionLimit
 un : A.units + 16 * k + 200 < cLine
theorem Fx.mono {j k : Nat} {A : Around} (r : Fx k A) (h : j ≤ k) : Fx j A := ⟨r.hd, by have := r.dp; omega, by have := r.un; omega⟩
theorem Fx.deeper {k : Nat} {A : Around} (r : Fx (k + 1) A) (env : Env) : Fx k (A.deeper env) :=
 ⟨r.hd, by have := r.dp; show A.depth + 1 + 3 * k + 5 < _; omega, by have := r.un; show A.units + 3 + 16 * k + 200 < _; omega⟩
theorem Fx.in1 {k : Nat} {A : Around} (r : Fx (k + 1) A) : Fx k A.in1 :=
 ⟨r.hd, by have := r.dp; show A.depth + 3 * k + 5 < _; omega, by have := r.un; show A.units + 1 + 16 * k + 200 < _; omega⟩
theorem Zo {A : Around} {C : Addr} {us : List Value} {kw : List (Str × Value)} : (A.under (.builtin "type.__call__" ⟨.ref C :: us, kw⟩)).depth = A.depth + 1 := by
 first | rfl | simp [Around.under, Code.weight, Code.isCreation, Code.isGuard, Code.isCaller, Code.frames, Code.isFrame, guardIds]
theorem Zn {A : Around} {C : Addr} {us : List Value} {kw : List (Str × Value)} : (A.under (.builtin "type.__call__" ⟨.ref C :: us, kw⟩)).units = A.units + 1 := by
 first | rfl | simp [Around.under, Code.cUnits, Code.frames, Code.isFrame]
theorem Fx.make {k : Nat} {A : Around} (r : Fx (k + 1) A) (C : Addr) (us : List Value) (kw : List (Str × Value)) : Fx k (A.under (.builtin "type.__call__" ⟨.ref C :: us, kw⟩)) :=
 ⟨r.hd, by have := r.dp; rw [Zo]; omega, by have := r.un; rw [Zn]; omega⟩
theorem Fx.depth {k : Nat} {A : Around} (r : Fx k A) : A.depth < recursionLimit := by have := r.dp; omega
theorem Fx.units {k : Nat} {A : Around} (r : Fx k A) : A.units + 64 < cLine := by have := r.un; omega
def Nv : TA := fun _ H Q => Q [] H
def Hv (ta : TE) (tr : TA) : TA := fun σ H Q => ta σ H fun x H1 => tr σ H1 fun xs H2 => Q (x :: xs) H2
section
variable {X : Cx} {e : Expr} {es : List Expr} {te : TE} {t : TA} {pos : Pos}
theorem Ag : PA X [] Nv := fun _ _ _ _ H Q I h => Calls.spliced_nil ⟨[], H, I, .nil, h⟩
theorem Aa (ha : PE X e te) (hr : PA X es t) (hs : starEach (e :: es) X.env = (false, eval e X.env) :: starEach es X.env := by rfl) : PA X (e :: es) (Hv te t) := by
 intro pos pins s σ H Q I h;rw [hs];show wpAny _ _ (spliced ((false, eval e X.env) :: backTo pos (starEach es X.env))) _ _ s;refine Calls.spliced_cons (thn (ha pins s σ H _ I h) fun u s1 ⟨x, H1, I1, r1, q1⟩ => ?_);exact thn (hr pos pins s1 σ H1 _ I1 q1) fun us s2 ⟨xs, H2, I2, r2, q2⟩ => ⟨x :: xs, H2, I2, .cons r1 r2, q2⟩
def tTup (t : TA) : TE := fun σ H Q => t σ H fun xs H1 => xs.length ≤ sizeLine ∧ ∀ p, H1 p = none → Q (.ref p) (upd H1 p (.tup xs))
def tLst (t : TA) : TE := fun σ H Q => t σ H fun xs H1 => xs.length ≤ sizeLine ∧ ∀ p, H1 p = none → Q (.ref p) (upd H1 p (.lst xs))
theorem Ag3 {x1} (h : PA X es t) : PE X (.Tuple es x1 pos) (tTup t) := by
 intro pins s σ H Q I hq;refine wpAny_Tuple_spliced (thn (h pos pins s σ H _ I hq) fun us s1 ⟨xs, H1, I1, r, z, q⟩ => ⟨by rw [← r.length]; exact z, ?_⟩);have hf : H1 s1.heap.objs.size = none := I1.hok.fresh (Ak _);refine ⟨.ref s1.heap.objs.size, upd H1 s1.heap.objs.size (.tup xs), I1.laid (t' := s1.toks) (fun b u e => Heap.get?_push_of_some _ e) (Ak _) ?_, rfl, q _ hf⟩;exact ⟨z, us, r, ⟨_, Heap.get?_push_size _ rfl, rfl, _, rfl⟩⟩
theorem Bl (h : PA X es t) : PE X (.List es pos) (tLst t) := by
 intro pins s σ H Q I hq;refine wpAny_List_spliced (thn (h pos pins s σ H _ I hq) fun us s1 ⟨xs, H1, I1, r, z, q⟩ => ⟨by rw [← r.length]; exact z, ?_⟩);have hf : H1 s1.heap.objs.size = none := I1.hok.fresh (Ak _);refine ⟨.ref s1.heap.objs.size, upd H1 s1.heap.objs.size (.lst xs), I1.laid (t' := s1.toks) (fun b u e => Heap.get?_push_of_some _ e) (Ak _) ?_, rfl, q _ hf⟩;exact ⟨z, us, 0, r, Heap.get?_push_size _ rfl⟩
end
abbrev Sp := List V → Hp → VK → XK → Prop
abbrev CXT := List Env → Hp → Shared → XK → Value → Shared → Prop
structure Aab (P : Program) (w : World) (K : Ad) (mg : Str → Option Value) (base : Heap) (A : Around) (outer : List Env) (s : Shared) (H : Hp) : Prop where
 frames : A.frames = some outer
 mod : Mod K mg base
 bs : ∀ b o, base.get? b = some o → s.heap.get? b = some o ∧ H b = none
 bsz : base.objs.size ≤ s.heap.objs.size
 funs : s.heap.FunFrames base outer
 frf : ∀ b ∈ frs outer, H b = none
 hok : HOk P w H s.heap
 bare : AllBare s.gens
def CE (outer : List Env) (P : Program) (w : World) (H : Hp) (s : Shared) (Q : VK) (u : Value) (s' : Shared) : Prop :=
 ∃ v H', s'.os = s.os ∧ AllBare s'.gens ∧ Un (frs outer) [] H H' s.heap s'.heap ∧ HOk P w H' s'.heap ∧ Df v u ∧ Q v H'
def CR (CX : CXT) (outer : List Env) (P : Program) (w : World) (H : Hp) (s : Shared) (Q : VK) (E : XK) (r : Result) (s' : Shared) : Prop :=
 match r with
 | .ok (.ret u) => CE outer P w H s Q u s'
 | .ok _ => False
 | .error e => CX outer H s E e s'
structure Hu (P : Program) (w : World) (K : Ad) (mg : Str → Option Value) (base : Heap) (CX : CXT) (k : Nat) (f : Addr) (fd : FuncData) (ps : List Str) (sp : Sp) : Prop where
 len : ∀ vs H Q E, sp vs H Q E → vs.length = ps.length
 run : ∀ (A : Around) (outer : List Env) (s : Shared) (H : Hp) (args : Args) (us : List Value) (vs : List V) (Q : VK) (E : XK), Fx k A → Aab P w K mg base A outer s H → BindsTo s fd args (ps.zip us) → Cy vs us → sp vs H Q E →
  codeAny (model P w) A (.call (.ref f) args) (CR CX outer P w H s Q E) s
theorem Hu.mono {P : Program} {w : World} {K : Ad} {mg : Str → Option Value} {base : Heap} {CX : CXT} {j k : Nat} {f : Addr} {fd : FuncData} {ps : List Str} {sp : Sp} (F : Hu P w K mg base CX j f fd ps sp) (h : j ≤ k) :
  Hu P w K mg base CX k f fd ps sp := ⟨F.len, fun A outer s H args us vs Q E hr => F.run A outer s H args us vs Q E (hr.mono h)⟩
theorem Aab.make {P : Program} {w : World} {K : Ad} {mg : Str → Option Value} {base : Heap} {A : Around} {outer : List Env} {s : Shared} {H : Hp} (e : Aab P w K mg base A outer s H) (C : Addr) (us : List Value) (kw : List (Str × Value)) :
  Aab P w K mg base (A.under (.builtin "type.__call__" ⟨.ref C :: us, kw⟩)) outer s H := ⟨by first | exact e.frames | (simpa [Around.under, Code.envs, Code.isFrame, pushEnvs] using e.frames), e.mod, e.bs, e.bsz, e.funs, e.frf, e.hok, e.bare⟩
theorem Aab.in1 {P : Program} {w : World} {K : Ad} {mg : Str → Option Value} {base : Heap} {A : Around} {outer : List Env} {s : Shared} {H : Hp} (e : Aab P w K mg base A outer s H) :
  Aab P w K mg base A.in1 outer s H := ⟨e.frames, e.mod, e.bs, e.bsz, e.funs, e.frf, e.hok, e.bare⟩
section
variable {X : Cx} {pins : List (Addr × Obj)} {σ : St} {H : Hp} {s s' : Shared}
theorem Inv.env0 (I : Inv X pins σ H s) : Aab X.prog X.w X.K X.mg X.base X.A X.stack s H :=
 ⟨I.ok.frames, I.ok.mod, I.bs, Bz I.ok.bsz I.sz, I.stack, I.stkFree, I.hok, I.bare⟩
theorem Inv.after {Q : VK} {u : Value} (I : Inv X pins σ H s) (h : CE X.stack X.prog X.w H s Q u s') : EP X pins σ Q u s' := by
 obtain ⟨v, H', os, bare, un, hok, r, q⟩ := h;obtain ⟨hh, g, d, t, os'⟩ := s';obtain rfl : os' = s.os := os;exact ⟨v, H', I.call (h' := hh) (g' := g) (d' := d) (t' := t) (ch := []) un hok bare (fun b z => absurd z (by simp)), r, q⟩
end
def Yq (sp : Sp) (dvs : List V) (E : XK) (t : TA) : TE := fun σ H Q => t σ H fun vs H1 => sp (vs ++ dvs) H1 Q E
def Aax (C : Addr) (m : Str) (sp : Sp) (dvs : List V) (E : XK) (ta : TE) (t : TA) : TE := fun σ H Q => ta σ H fun x H1 => ∃ a dx fs, x = .ref a ∧ H1 a = some (.ins C dx fs) ∧ fs.lookup m = none ∧
 t σ H1 fun vs H2 => sp (x :: (vs ++ dvs)) H2 Q E
def Ady (C : Addr) (sp : Sp) (dvs : List V) (E : XK) (t : TA) : TE := fun σ H Q => t σ H fun vs H1 => ∀ x dx, H1 x = none → H1 dx = none → dx ≠ x →
 sp (.ref x :: (vs ++ dvs)) (upd (upd H1 dx (.own x)) x (.ins C dx [])) (fun v H2 => v = .non ∧ Q (.ref x) H2) E
def Gw (K : Ad) (fd : FuncData) (ps : List Str) (ds : List Value) : Prop :=
 ∀ (s : Shared) (us : List Value), K.In s.heap → (us ++ ds).length = ps.length → BindsTo s fd ⟨us, []⟩ (ps.zip (us ++ ds))
theorem Gw.all {K : Ad} {fd : FuncData} {ps : List Str} (h : ∀ us : List Value, us.length = ps.length → bindArgs fd ⟨us, []⟩ = pure (ps.zip us)) : Gw K fd ps [] := fun s us _ hl => by
 rw [B8] at hl ⊢;exact .of_eq (h us hl)
def Oj (CX : CXT) (X : Cx) (E : XK) : Prop := ∀ (pins : List (Addr × Obj)) (σ : St) (H : Hp) (s : Shared) (e : Value) (s' : Shared), Inv X pins σ H s → CX X.stack H s E e s' → X.xe e s'
section
variable {X : Cx} {CX : CXT} {k : Nat} {f C : Addr} {fd : FuncData} {ps : List Str} {sp : Sp} {dvs : List V} {ds : List Value} {E : XK} {x m : Str} {p pos apos : Pos} {e o : Expr} {es : List Expr} {ta : TE} {t : TA}
theorem Y1 {pins : List (Addr × Obj)} {σ : St} {H : Hp} {s : Shared} {Q : VK} {us : List Value} {vs : List V} (F : Hu X.prog X.w X.K X.mg X.base CX k f fd ps sp) (hr : Fx k X.A) (hb : Gw X.K fd ps ds) (hd : Cy dvs ds) (hx : Oj CX X E)
  (I : Inv X pins σ H s) (r : Cy vs us) (h : sp (vs ++ dvs) H Q E) : wpAny (model X.prog X.w) X.A (call (.ref f) us) (EP X pins σ Q) X.xe s := by
 have r2 : Cy (vs ++ dvs) (us ++ ds) := r.append hd;have hl : (us ++ ds).length = ps.length := by rw [← r2.length]; exact F.len _ _ _ _ h
 refine wpAny_call (codeAny_mono (F.run X.A X.stack s H ⟨us, []⟩ (us ++ ds) (vs ++ dvs) Q E hr I.env0 (hb s us I.kIn hl) r2 h) fun r s' hq => ?_)
 cases r with
 | error e => exact hx pins σ H s e s' I hq
 | ok fl =>
  cases fl with
  | ret u => exact I.after hq
  | next => exact Dn hq
  | brk => exact Dn hq
  | cont => exact Dn hq
theorem Ah8 (F : Hu X.prog X.w X.K X.mg X.base CX k f fd ps sp) (hr : Fx k X.A) (hg : Gl X x) (hm : X.mg x = some (.ref f)) (hk : Dx X.K (.ref f) = true) (hb : Gw X.K fd ps ds) (hd : Cy dvs ds) (hx : Oj CX X E)
  (ha : PA X (e :: es) t) (hdb : (x == ("__debug__" : Str)) = false := by decide) (he : starEach (e :: es) X.env = (false, eval e X.env) :: starEach es X.env := by rfl) (hpl : (backTo pos (starEach es X.env)).any (·.1) = false := by rfl) :
  PE X (.Call (.Name x p) (e :: es) [] pos) (Yq sp dvs E t) := by
 intro pins s σ H Q I h;refine wpAny_Call_Name_kw (Uy I hg hm ?_ hdb);refine O4 (h₀ := X.base) I.ok.mod.kin hk (thn (ha pos pins s σ H _ I h) fun us s1 ⟨vs, H1, I1, r, q⟩ => ⟨I1.kIn, ?_⟩) he hpl;exact Y1 F hr hb hd hx I1 r q
theorem Ah5 {pl : Sem Bool} (he : PE X o ta) (c : Cls X.K C) (hm : Aib X.K C m f) (F : Hu X.prog X.w X.K X.mg X.base CX k f fd ps sp) (hr : Fx k X.A) (hb : Gw X.K fd ps ds) (hd : Cy dvs ds) (hx : Oj CX X E) (ha : PA X (e :: es) t)
  (hst : starEach (e :: es) X.env = (false, eval e X.env) :: starEach es X.env := by rfl) (hpl : (backTo pos (starEach es X.env)).any (·.1) = false := by rfl)
  (ht : eval (.Call (.Attribute o m apos) (e :: es) [] pos) X.env = (do
   let ov ← eval o X.env
   standAt apos.atName
   let (f, first) ← holding [ov] (getMethod ov m pl)
   callWith pos f first (backTo pos (starEach (e :: es) X.env)) (backToKw pos (keywordEach [] X.env))) := by rfl) :
  PE X (.Call (.Attribute o m apos) (e :: es) [] pos) (Aax C m sp dvs E ta t) := by
 intro pins s σ H Q I h;refine PySem.W.methodCall_KW (pl := pl) (thn (he pins s σ H _ I h) fun u s1 ⟨x, H1, I1, rx, a, dx, fs, ex, ea, l, q⟩ => ?_) ht;subst ex;obtain rfl : u = Value.ref a := rx;refine S6 I1 ea c hm l ?_;refine O4 (first := [.ref a]) (h₀ := X.base) I.ok.mod.kin hm.kp (thn (ha pos pins s1 σ H1 _ I1 q) fun us s2 ⟨vs, H2, I2, r, q2⟩ => ⟨I2.kIn, ?_⟩) hst hpl;exact Y1 (us := .ref a :: us) (vs := .ref a :: vs) F hr hb hd hx I2 (.cons rfl r) q2
theorem Aea {pl : Sem Bool} (he : PE X o ta) (c : Cls X.K C) (hm : Aib X.K C m f) (F : Hu X.prog X.w X.K X.mg X.base CX k f fd ps sp) (hr : Fx k X.A) (hb : Gw X.K fd ps ds) (hd : Cy dvs ds) (hx : Oj CX X E)
  (ht : eval (.Call (.Attribute o m apos) [] [] pos) X.env = (do
   let ov ← eval o X.env
   standAt apos.atName
   let (f, first) ← holding [ov] (getMethod ov m pl)
   callWith pos f first (backTo pos (starEach [] X.env)) (backToKw pos (keywordEach [] X.env))) := by rfl) :
  PE X (.Call (.Attribute o m apos) [] [] pos) (Aax C m sp dvs E ta Nv) := by
 intro pins s σ H Q I h;refine PySem.W.methodCall_KW (pl := pl) (thn (he pins s σ H _ I h) fun u s1 ⟨x, H1, I1, rx, a, dx, fs, ex, ea, l, q⟩ => ?_) ht;subst ex;obtain rfl : u = Value.ref a := rx;refine S6 I1 ea c hm l ?_;exact PySem.W.callWith_K0 (first := [.ref a]) I1.kIn hm.kp (Y1 (us := [.ref a]) (vs := [.ref a]) F hr hb hd hx I1 (.cons rfl .nil) q)
structure Mk (K : Ad) (C f : Addr) : Prop where
 makes : Agi K C = true
 init : Dy K (.ref C) "__init__" = some (some (.ref f))
 fn : Vi K (.ref f) = true
 kp : Dx K (.ref C) = true
theorem Y0 {pins : List (Addr × Obj)} {σ : St} {H : Hp} {s : Shared} {Q : VK} {us : List Value} {vs : List V} (M : Mk X.K C f) (F : Hu X.prog X.w X.K X.mg X.base CX k f fd ps sp) (hr : Fx (k + 1) X.A) (hb : Gw X.K fd ps ds) (hd : Cy dvs ds)
  (hx : Oj CX X E) (I : Inv X pins σ H s) (r : Cy vs us)
  (h : ∀ x dx, H x = none → H dx = none → dx ≠ x → sp (.ref x :: (vs ++ dvs)) (upd (upd H dx (.own x)) x (.ins C dx [])) (fun v H2 => v = .non ∧ Q (.ref x) H2) E) :
  wpAny (model X.prog X.w) X.A (call (.ref C) us) (EP X pins σ Q) X.xe s := by
 have hq := h (s.heap.objs.size + 1) s.heap.objs.size (I.hok.fresh (F7 _)) (I.hok.fresh (Ak _)) (Cj (Lc _));have I2 := Inv.made (C := C) I;have r2 : Cy (V.ref (s.heap.objs.size + 1) :: (vs ++ dvs)) (Value.ref (s.heap.objs.size + 1) :: (us ++ ds)) := .cons rfl (r.append hd);have hl : (Value.ref (s.heap.objs.size + 1) :: us ++ ds).length = ps.length := by
  have e := r2.length;rw [F.len _ _ _ _ hq] at e;exact e.symm
 refine wpAny_call (Aes (f := f) I.kIn M.makes M.init (beq_iff_eq.mp M.fn) (codeAny_mono (F.run _ X.stack _ _ ⟨Value.ref (s.heap.objs.size + 1) :: us, []⟩ (Value.ref (s.heap.objs.size + 1) :: (us ++ ds)) _ _ E (hr.make C us [])
  (I2.env0.make C us []) (hb _ (Value.ref (s.heap.objs.size + 1) :: us) I2.kIn hl) r2 hq) fun r s' hq' => ?_))
 cases r with
 | error e => exact hx pins σ _ _ e s' I2 hq'
 | ok fl =>
  cases fl with
  | ret u =>
   obtain ⟨v, H', I3, rv, ev, q3⟩ := I2.after hq';subst ev;exact ⟨rv, ⟨V.ref (s.heap.objs.size + 1), H', I3, rfl, q3⟩⟩
  | next => exact Dn hq'
  | brk => exact Dn hq'
  | cont => exact Dn hq'
theorem Ah7 (M : Mk X.K C f) (F : Hu X.prog X.w X.K X.mg X.base CX k f fd ps sp) (hr : Fx (k + 1) X.A) (hg : Gl X x) (hm : X.mg x = some (.ref C)) (hb : Gw X.K fd ps ds) (hd : Cy dvs ds) (hx : Oj CX X E)
  (ha : PA X (e :: es) t) (hdb : (x == ("__debug__" : Str)) = false := by decide) (he : starEach (e :: es) X.env = (false, eval e X.env) :: starEach es X.env := by rfl) (hpl : (backTo pos (starEach es X.env)).any (·.1) = false := by rfl) :
  PE X (.Call (.Name x p) (e :: es) [] pos) (Ady C sp dvs E t) := by
 intro pins s σ H Q I h;refine wpAny_Call_Name_kw (Uy I hg hm ?_ hdb);refine O4 (h₀ := X.base) I.ok.mod.kin M.kp (thn (ha pos pins s σ H _ I h) fun us s1 ⟨vs, H1, I1, r, q⟩ => ⟨I1.kIn, ?_⟩) he hpl;exact Y0 M F hr hb hd hx I1 r q
theorem Aeb (M : Mk X.K C f) (F : Hu X.prog X.w X.K X.mg X.base CX k f fd ps sp) (hr : Fx (k + 1) X.A) (hg : Gl X x) (hm : X.mg x = some (.ref C)) (hb : Gw X.K fd ps ds) (hd : Cy dvs ds) (hx : Oj CX X E)
  (hdb : (x == ("__debug__" : Str)) = false := by decide) : PE X (.Call (.Name x p) [] [] pos) (Ady C sp dvs E Nv) := by
 intro pins s σ H Q I h;refine wpAny_Call_Name_kw (Uy I hg hm ?_ hdb);exact PySem.W.callWith_K0 I.kIn M.kp (Y0 (us := []) M F hr hb hd hx I .nil h)
end
def PK (X : Cx) (kws : List Keyword) (t : TA) : Prop :=
 ∀ (pos : Pos) (pins : List (Addr × Obj)) (s : Shared) (σ : St) (H : Hp) (Q : List V → Hp → Prop), Inv X pins σ H s → t σ H Q → wpAny (model X.prog X.w) X.A (evalAll ((backToKw pos (keywordEach kws X.env)).map (·.2))) (AP X pins σ Q) X.xe s
section
variable {X : Cx} {CX : CXT} {k : Nat} {f C : Addr} {fd : FuncData} {ps ks : List Str} {sp : Sp} {E : XK} {x m : Str} {p pos apos kpos : Pos} {e o : Expr} {es : List Expr} {kws : List Keyword} {te ta : TE} {t tk : TA} {nm : Option Str}
theorem Ag0 : PK X [] Nv := fun _ _ _ _ H Q I h => wpAny_evalAll_nil ⟨[], H, I, .nil, h⟩
theorem Acw (ha : PE X e te) (hr : PK X kws t) : PK X (⟨nm, e, kpos⟩ :: kws) (Hv te t) := by
 intro pos pins s σ H Q I h;show wpAny _ _ (evalAll ((do let v ← eval e X.env; standAt pos; pure v) :: (backToKw pos (keywordEach kws X.env)).map (·.2))) _ _ s;refine wpAny_evalAll_cons (wpAny_bind (thn (ha pins s σ H _ I h) fun u s1 ⟨x, H1, I1, r1, q1⟩ => wpAny_bind (wpAny_standAt (wpAny_pure ?_))));exact thn (hr pos pins s1 σ H1 _ I1 q1) fun us s2 ⟨xs, H2, I2, r2, q2⟩ => ⟨x :: xs, H2, I2, .cons r1 r2, q2⟩
variable {g : List Value → List Value → List Value} {gV : List V → List V → List V}
end
structure A8 (N P : List Str) (sc : Scope) : Prop where
 kind : sc.kind = .function
 co : sc.isCoroutine = false
 gen : sc.isGenerator = false
 nd : N.Nodup
 pre : N.take P.length = P
 par : ∀ x ∈ P, sc.names.lookup x = some .local ∨ sc.names.lookup x = some .cell
 nofree : ∀ y ∈ sc.names, y.2 ≠ .free
theorem Wl {kindOf : Str → Option NameKind} {x : Str} : ∀ {binds : List (Str × Value)} {m : Str → Option Value}, (∀ v, (x, v) ∉ binds) → bindL kindOf binds m x = m x
 | [], _, _ => rfl
 | (n, v) :: r, m, h => by
  unfold bindL;rw [Wl fun w hw => h w (Am _ hw)]
  split
  ·have : x ≠ n := by rintro rfl; exact h v A0
   simp [this]
  ·rfl
theorem Wn {kindOf : Str → Option NameKind} {x : Str} : ∀ {binds : List (Str × Value)} {m : Str → Option Value}, (∀ v, (x, v) ∉ binds) → bindC kindOf binds m x = m x
 | [], _, _ => rfl
 | (n, v) :: r, m, h => by
  unfold bindC;rw [Wn fun w hw => h w (Am _ hw)]
  split
  ·rfl
  ·have : x ≠ n := by rintro rfl; exact h v A0
   simp [this]
theorem Wm {kindOf : Str → Option NameKind} {x : Str} {v : Value} : ∀ {P : List Str} {vs : List Value} {i : Nat} {m : Str → Option Value}, P.Nodup → P[i]? = some x → vs[i]? = some v → kindOf x = some .local →
  bindL kindOf (P.zip vs) m x = some v
 | [], _, _, _, _, h, _, _ => by simp at h
 | _ :: _, [], _, _, _, _, h, _ => by simp at h
 | p :: P, w :: vs, 0, m, nd, h1, h2, hk => by
  simp at h1 h2; subst h1; subst h2;show bindL kindOf ((p, w) :: P.zip vs) m p = _;unfold bindL;rw [Wl fun v hv => (Bt.mp nd).1 (Jl hv).1, if_pos hk];simp
 | p :: P, w :: vs, i + 1, m, nd, h1, h2, hk => by
  show bindL kindOf ((p, w) :: P.zip vs) m x = _;unfold bindL;exact Wm (i := i) (Bt.mp nd).2 (by simpa using h1) (by simpa using h2) hk
theorem Wo {kindOf : Str → Option NameKind} {x : Str} {v : Value} : ∀ {P : List Str} {vs : List Value} {i : Nat} {m : Str → Option Value}, P.Nodup → P[i]? = some x → vs[i]? = some v → kindOf x ≠ some .local →
  bindC kindOf (P.zip vs) m x = some v
 | [], _, _, _, _, h, _, _ => by simp at h
 | _ :: _, [], _, _, _, _, h, _ => by simp at h
 | p :: P, w :: vs, 0, m, nd, h1, h2, hk => by
  simp at h1 h2; subst h1; subst h2;show bindC kindOf ((p, w) :: P.zip vs) m p = _;unfold bindC;rw [Wn fun v hv => (Bt.mp nd).1 (Jl hv).1, if_neg hk];simp
 | p :: P, w :: vs, i + 1, m, nd, h1, h2, hk => by
  show bindC kindOf ((p, w) :: P.zip vs) m x = _;unfold bindC;exact Wo (i := i) (Bt.mp nd).2 (by simpa using h1) (by simpa using h2) hk
def start (N : List Str) (vs : List V) : St := vs.map some ++ List.replicate (N.length - vs.length) none
def Agb (CX : CXT) (P : Program) (w : World) (K : Ad) (mg : Str → Option Value) (base : Heap) (N : List Str) (qual : Str) (scope : Scope) (f : Addr) (cd : Value) (A : Around) (outer : List Env) (s : Shared) (H : Hp) (E : XK) : Cx where
 prog := P
 w := w
 K := K
 mg := mg
 base := base
 A := A.deeper (envOfC qual scope s.heap.objs.size f cd)
 N := N
 s_0 := s
 H_0 := H
 env := envOfC qual scope s.heap.objs.size f cd
 outer := outer
 stack := envOfC qual scope s.heap.objs.size f cd :: outer
 ex := []
 calm := true
 fn := fun _ => true
 pn := []
 xe := fun e s' => wpAny (model P w) (A.deeper (envOfC qual scope s.heap.objs.size f cd)) (leaving (envOfC qual scope s.heap.objs.size f cd) e) (fun _ s'' => CX outer H s E e s'') (fun e' s'' => CX outer H s E e' s'') s'
theorem Aa7 {sc : Scope} {n : Nat} {x : Str} (h : sc.names.lookup x = some .cell) : ∃ c, (cellsFrom n sc.names []).lookup x = some c := by
 have q := PySem.W.cellsFrom_some sc.names n [] (.inl h);exact Cz.mp q
theorem Abt {CX : CXT} {P : Program} {w : World} {K : Ad} {mg : Str → Option Value} {base : Heap} {N ps : List Str} {qual : Str} {scope : Scope} {f : Addr} {cd : Value} {A : Around} {outer : List Env} {s s1 : Shared} {H : Hp} {E : XK} {us : List Value} {vs : List V}
  (S : A8 N ps scope) (hd : A.handled = none) (e0 : Aab P w K mg base A outer s H) (hl : vs.length = ps.length) (r : Cy vs us)
  (x : InCallC s s.heap.objs.size (bindL (envOfC qual scope s.heap.objs.size f cd).kindOf (ps.zip us) fun _ => none) (cellsFrom (s.heap.objs.size + 1) scope.names []) (bindC (envOfC qual scope s.heap.objs.size f cd).kindOf (ps.zip us) fun _ => none) s1) :
  Inv (Agb CX P w K mg base N qual scope f cd A outer s H E) [] (start N vs) H s1 := by
 have hpl : ps.length ≤ N.length := by have := congrArg List.length S.pre; rw [Cg] at this; omega
 obtain ⟨h1, tk, rfl, hk⟩ := x.done;have noA : ∀ b : Addr, b ∉ (Agb CX P w K mg base N qual scope f cd A outer s H E).ex := fun b z => absurd (show b ∈ ([] : List Addr) from z) (by simp);refine ⟨⟨e0.mod, S.kind, rfl, rfl, Ak _, fun y z c h1 h2 => ?_, fun y hy => ?_, fun y c _ h => ?_, fun _ => hd, Around.frames_deeper e0.frames, .inr ⟨rfl, rfl⟩, fun b z => absurd z (noA b), e0.bs, e0.bsz, fun b _ _ => noA b, fun b z => absurd z (noA b), e0.funs, e0.frf⟩,
  rfl, e0.bare, Un.kept hk, ⟨_, x.toInCall.ns, fun i y v h1 h2 h3 => ?_⟩, fun y c h => ⟨_, x.cell y c h⟩, e0.hok.fresh (Ak _), fun y c h => ?_, fun p hp => absurd (show p ∈ ([] : List (Addr × Obj)) from hp) (by simp), e0.hok.kept hk, ?_⟩
 ·exact name_of_addr x.apart (B5 h1) (B5 h2)
 ·have hy : scope.names.lookup y = some .cell ∨ scope.names.lookup y = some .free := hy
  rcases hy with hy | hy
  ·exact Aa7 hy
  ·exact absurd rfl (S.nofree _ (B5 hy))
 ·exact En (x.above y c (B5 h))
 ·have hi : i < vs.length := by
   unfold start at h2
   by_cases hi : i < vs.length
   ·exact hi
   ·rw [Dz (by simpa using hi)] at h2;rw [List.getElem?_replicate] at h2
    split at h2 <;> cases h2
  have ha : vs[i]? = some v := by
   unfold start at h2;rw [Iv (by simpa using hi), Ap] at h2
   cases e : vs[i]? with
   | none => rw [e] at h2; cases h2
   | some a => rw [e] at h2; cases h2; rfl
  obtain ⟨u, hu, rv⟩ := r.get ha;have hp : ps[i]? = some y := by
   rw [← S.pre, List.getElem?_take_of_lt (by omega)]; exact h1
  have ndP : ps.Nodup := by rw [← S.pre]; exact S.nd.sublist (List.take_sublist _ _)
  refine ⟨u, rv, ?_⟩
  rcases S.par y (As hp) with k | k
  ·exact .inl ⟨k, Wm ndP hp hu k⟩
  ·obtain ⟨c, e⟩ := Aa7 (n := s.heap.objs.size + 1) k;refine .inr ⟨.inl k, c, e, ?_⟩;have q := x.cell y c e;rw [Wo ndP hp hu (by show scope.names.lookup y ≠ _; rw [k]; decide)] at q;exact q
 ·exact e0.hok.fresh (En (x.above y c (B5 h)))
 ·unfold start;show _ = N.length;rw [A6, Ac, List.length_replicate];omega
theorem Aky {CX : CXT} {P : Program} {w : World} {K : Ad} {mg : Str → Option Value} {base : Heap} {k : Nat} {f : Addr} {name qual : Str} {params : Arguments} {body : List Stmt} {scope : Scope} {dV kV doc pm cdv ct oc : Value} {an od : Option Addr}
  {osl : Array (Option Value)} {N ps : List Str} {sp : Sp} (lk : K.lookup f = some ⟨oc, od, .func (Ds name qual params body scope dV kV doc pm an cdv ct), osl⟩) (hcd : Km K cdv qual = true) (S : A8 N ps scope)
  (len : ∀ vs H Q E, sp vs H Q E → vs.length = ps.length)
  (hbody : ∀ (A : Around) (outer : List Env) (s : Shared) (H : Hp) (vs : List V) (Q : VK) (E : XK), Fx k (A.deeper (envOfC qual scope s.heap.objs.size f cdv)) → sp vs H Q E →
   ∃ t, PSs (Agb CX P w K mg base N qual scope f cdv A outer s H E) body t ∧ t { nx := fun _ H' => Q .non H', rt := Q } (start N vs) H) :
  Hu P w K mg base CX (k + 1) f (Ds name qual params body scope dV kV doc pm an cdv ct) ps sp := by
 refine ⟨len, fun A outer s H args us vs Q E hr e0 hb r hsp => ?_⟩;have hl := len _ _ _ _ hsp;have KX : K.In s.heap := e0.mod.kin.keeps fun b o e => (e0.bs b o e).1;have lim : s.heap.NoLimit := e0.mod.nolimit.keeps fun b o e => (e0.bs b o e).1;have hkind : ∀ y ∈ ps.zip us, scope.names.lookup y.1 = some .local ∨ (scope.names.lookup y.1 = some .cell ∧ ((cellsFrom (s.heap.objs.size + 1) scope.names []).lookup y.1).isSome = true) := fun ⟨n, v⟩ hy => by
  rcases S.par n (Jl hy).1 with q | q
  ·exact .inl q
  ·exact .inr ⟨q, PySem.W.cellsFrom_some _ _ _ (.inl q)⟩
 refine codeAny_call_function hr.depth (KX _ _ lk) rfl S.co S.gen rfl (PySem.W.codeRec_of KX hcd) (hb _ _ _ _ ?_);refine wpAny_newFunctionEnv_cells S.kind hkind fun env he s1 x => ?_;subst he;refine ⟨lim.keeps x.toInCall.keep, codeAny_func ?_⟩;obtain ⟨t, ht, hq⟩ := hbody A outer s H vs Q E (hr.deeper _) hsp;have I : Inv (Agb CX P w K mg base N qual scope f cdv A outer s H E) [] (start N vs) H s1 := Abt S hr.hd e0 hl r x;refine wpAny_mono (ht [] s1 (start N vs) H _ I hq) (fun fl s' hs => ?_) fun e s' hs => hs;have fin : ∀ {σ' : St} {H' : Hp} {v : V} {u : Value}, Inv (Agb CX P w K mg base N qual scope f cdv A outer s H E) [] σ' H' s' → Df v u → Q v H' → CE outer P w H s Q u s' :=
  fun {σ' H' v u} J rv q => ⟨v, H', J.os, J.bare, J.base, J.hok, rv, q⟩
 cases fl with
 | ret u =>
  obtain ⟨v, σ', H', J, rv, q⟩ := hs;exact fin J rv q
 | next =>
  obtain ⟨σ', H', J, q⟩ := hs;exact fin (v := V.non) (u := Value.none) J rfl q
 | brk =>
  obtain ⟨_, _, _, q⟩ := hs;exact Dn q
 | cont =>
  obtain ⟨_, _, _, q⟩ := hs;exact Dn q
end L2
namespace L2
open PySem PySem.Spec PyProof.Rows
section
variable {X : Cx} {x : Str} {p pos : Pos} {e : Expr} {es : List Expr} {t : TA} {id T : String} {r : List V → Hp → VK → Prop}
def tCB (r : List V → Hp → VK → Prop) (t : TA) : TE := fun σ H Q => t σ H fun vs H1 => r vs H1 Q
theorem C1 (hc : Sh X (.builtin id) r) (hg : Gl X x) (hm : X.mg x = none) (hv : bootBuiltins x = some (.builtin id)) (ha : PA X (e :: es) t) (hn : x ≠ "__name__" := by decide) (hdb : (x == ("__debug__" : Str)) = false := by decide)
  (he : starEach (e :: es) X.env = (false, eval e X.env) :: starEach es X.env := by rfl) (hpl : (backTo pos (starEach es X.env)).any (·.1) = false := by rfl) : PE X (.Call (.Name x p) (e :: es) [] pos) (tCB r t) := by
 intro pins s σ H Q I h;refine wpAny_Call_Name_kw (S2 I hg hm hv ?_ hn hdb);exact PyProof.Rows.callWith_builtin1 (thn (ha pos pins s σ H _ I h) fun us s1 ⟨vs, H1, I1, r1, q1⟩ => hc pins s1 σ H1 vs us Q I1 r1 q1) he hpl
theorem Fu (hc : Sh X (.type T) r) (hg : Gl X x) (hm : X.mg x = none) (hv : bootBuiltins x = some (.type T)) (ha : PA X (e :: es) t) (hn : x ≠ "__name__" := by decide) (hdb : (x == ("__debug__" : Str)) = false := by decide)
  (he : starEach (e :: es) X.env = (false, eval e X.env) :: starEach es X.env := by rfl) (hpl : (backTo pos (starEach es X.env)).any (·.1) = false := by rfl) : PE X (.Call (.Name x p) (e :: es) [] pos) (tCB r t) := by
 intro pins s σ H Q I h;refine wpAny_Call_Name_kw (S2 I hg hm hv ?_ hn hdb);exact Oo (thn (ha pos pins s σ H _ I h) fun us s1 ⟨vs, H1, I1, r1, q1⟩ => hc pins s1 σ H1 vs us Q I1 r1 q1) he hpl
end
end L2
namespace HT
open PySem PyProof.Rows
section
open PySem.SeqAt
open PySem.AutoSeq1 (wpAny_loadPart')
open PySem.MeetsSeq PySem.MeetsSeq2 PySem.MeetsSeq3
end
section
variable {prog : Program} {w : World} {A : Around} {E : Value → Shared → Prop} {s : Shared}
def sIx (n d : Nat) : Option Int → Nat
 | none => d
 | some v => if v < 0 then (v + (n : Int)).toNat else min v.toNat n
theorem sIx_nat (n d k : Nat) : sIx n d (some (k : Int)) = min k n := by
 show (if (k : Int) < 0 then ((k : Int) + (n : Int)).toNat else min (k : Int).toNat n) = min k n;rw [if_neg (by omega), D8]
end
end HT
namespace L2
open PySem PySem.Spec PyProof.Rows
abbrev TO := St → Hp → (Option Int → Hp → Prop) → Prop
def PO (X : Cx) (e : Option Expr) (t : TO) : Prop :=
 ∀ (pins : List (Addr × Obj)) (s : Shared) (σ : St) (H : Hp) (Q : Option Int → Hp → Prop), Inv X pins σ H s → t σ H Q →
  wpAny (model X.prog X.w) X.A (evalPart e X.env) (fun u s' => ∃ o H', Inv X pins σ H' s' ∧ IsPart u o ∧ Q o H') X.xe s
def Ake (t : TE) : TO := fun σ H Q => t σ H fun x H1 => ∃ i, x = .int i ∧ Q (some i) H1
section
variable {X : Cx} {e : Expr} {te : TE} {lo hi : Option Expr} {tl th : TO} {pos p2 : Pos}
theorem Acv (h : PE X e te) : PO X (some e) (Ake te) := by
 intro pins s σ H Q I hw;rw [evalPart_some];refine thn (h pins s σ H _ I hw) fun u s1 ⟨x, H1, I1, r1, q1⟩ => ?_;obtain ⟨i, rfl, q⟩ := q1;obtain ⟨t, rfl⟩ := r1;exact ⟨some i, H1, I1, .int i t, q⟩
def SlR (X : Cx) (r : V → Option Int → Option Int → Hp → VK → Prop) : Prop :=
 ∀ (pins : List (Addr × Obj)) (s : Shared) (σ : St) (H : Hp) (x : V) (v vl vu : Value) (lo hi : Option Int) (sl : Addr) (Q : VK), Inv X pins σ H s → Df x v → s.heap.IsSliceOf sl vl vu .none → IsPart vl lo → IsPart vu hi → r x lo hi H Q →
  ∃ T id, typeLookup (.type T) "__getitem__" = pure (some (.builtin id)) ∧ s.TypeIs v T ∧ wpAny (model X.prog X.w) X.A (getItem v (.ref sl)) (EP X pins σ Q) X.xe s
def tSl (r : V → Option Int → Option Int → Hp → VK → Prop) (te : TE) (tl th : TO) : TE := fun σ H Q => te σ H fun x H1 => tl σ H1 fun l H2 => th σ H2 fun u H3 => r x l u H3 Q
theorem Ae8 {r : V → Option Int → Option Int → Hp → VK → Prop} (hr : SlR X r) (he : PE X e te) (hl : PO X lo tl) (hu : PO X hi th) : PE X (.Subscript e (.Slice lo hi none p2) pos) (tSl r te tl th) := by
 intro pins s σ H Q I h;refine Subscript_ (thn (he pins s σ H _ I h) fun v s1 ⟨x, H1, I1, r1, q1⟩ => ?_);refine wpAny_Slice (thn (hl pins s1 σ H1 _ I1 q1) fun vl s2 ⟨l, H2, I2, pl, q2⟩ => thn (hu pins s2 σ H2 _ I2 q2) fun vu s3 ⟨u, H3, I3, pu, q3⟩ => ?_);rw [evalPart_none];refine wpAny_pure ?_;have I4 : Inv X pins σ H3 { s3 with heap := s3.heap.push { cls := .type "slice", data := .fields #[vl, vu, .none] } } := I3.kept (t' := s3.toks) fun b ob q => Heap.get?_push_of_some _ q;obtain ⟨T, id, hT, ht, hg⟩ := hr pins { s3 with heap := s3.heap.push { cls := .type "slice", data := .fields #[vl, vu, .none] } } σ H3 x v vl vu l u s3.heap.objs.size Q I4 r1 (Heap.IsSliceOf.new ..) pl pu q3;show wpAny (model X.prog X.w) X.A (subscriptTail e (.Slice lo hi none p2) v (.ref s3.heap.objs.size)) (EP X pins σ Q) X.xe { s3 with heap := s3.heap.push { cls := .type "slice", data := .fields #[vl, vu, .none] } };exact tail_any (ops := [.ref s3.heap.objs.size, v]) ht hT hg (by with_unfolding_all rfl)
def Afb (xs : List V) (lo hi : Option Int) : List V := (xs.drop (HT.sIx xs.length 0 lo)).take (HT.sIx xs.length xs.length hi - HT.sIx xs.length 0 lo)
theorem Xt (xs : List V) (lo hi : Option Int) : (Afb xs lo hi).length ≤ xs.length := by
 unfold Afb;rw [Cg, List.length_drop];omega
end
end L2
namespace L2
open PySem PySem.Spec PyProof.Rows
def ixN (n : Nat) (i : Int) : Option Nat := if 0 ≤ i then (if i < n then some i.toNat else none) else if -(n : Int) ≤ i then some (i + n).toNat else none
def atI {α : Type} (xs : List α) (i : Int) : Option α := (ixN xs.length i).bind fun j => xs[j]?
theorem Ahr {n : Nat} {i : Int} {j : Nat} (h : ixN n i = some j) : seqIndex? i n = some j ∧ j < n ∧ -(n : Int) ≤ i ∧ i < n := by
 unfold ixN at h
 by_cases h0 : 0 ≤ i
 ·rw [if_pos h0] at h
  by_cases h1 : i < n
  ·rw [if_pos h1] at h;have e : i.toNat = j := Ah h;exact ⟨by rw [seqIndex_of h0 h1, e], by omega, by omega, h1⟩
  ·rw [if_neg h1] at h; cases h
 ·rw [if_neg h0] at h
  by_cases h1 : -(n : Int) ≤ i
  ·rw [if_pos h1] at h;have e : (i + n).toNat = j := Ah h;exact ⟨by rw [seqIndex_neg (by omega) h1, e], by omega, h1, by omega⟩
  ·rw [if_neg h1] at h; cases h
theorem Adc {α : Type} {xs : List α} {i : Int} {v : α} (h : atI xs i = some v) : ∃ j, seqIndex? i xs.length = some j ∧ xs[j]? = some v ∧ j < xs.length ∧ -(xs.length : Int) ≤ i ∧ i < xs.length := by
 unfold atI at h
 cases e : ixN xs.length i with
 | none => rw [e] at h; cases h
 | some j =>
  rw [e] at h;obtain ⟨h1, h2, h3, h4⟩ := Ahr e;exact ⟨j, h1, h, h2, h3, h4⟩
theorem Ai5 {α : Type} {xs : List α} {j : Nat} {v : α} (h : xs[j]? = some v) : atI xs (j : Int) = some v := by
 have hj : j < xs.length := (Af.mp h).1;have e : ixN xs.length (j : Int) = some j := by
  unfold ixN;rw [if_pos (by omega), if_pos (by omega)]; simp
 unfold atI; rw [e]; exact h
def Ai9 (b : Expr) : Prop := ∀ o i, subscripted b false o i = operate [o, i] (getItem o i)
def IxR (X : Cx) (r : R2) : Prop :=
 ∀ (value slice : Expr) (pins : List (Addr × Obj)) (s : Shared) (σ : St) (H : Hp) (x y : V) (v u : Value) (Q : VK), Inv X pins σ H s → Df x v → Df y u → r x y H Q →
  subscripted slice false v u = operate [v, u] (getItem v u) → wpAny (model X.prog X.w) X.A (subscriptTail value slice v u) (EP X pins σ Q) X.xe s
def MtR (X : Cx) (id : String) (r : V → List V → Hp → VK → Prop) : Prop :=
 ∀ (pins : List (Addr × Obj)) (s : Shared) (σ : St) (H : Hp) (x : V) (xs : List V) (v : Value) (us : List Value) (Q : VK), Inv X pins σ H s → Df x v → Cy xs us → r x xs H Q →
  wpAny (model X.prog X.w) X.A (call (.builtin id) (v :: us)) (EP X pins σ Q) X.xe s
section
variable {X : Cx} {a b : Expr} {ta tb : TE} {pos : Pos}
theorem Du {r : R2} (hr : IxR X r) (ha : PE X a ta) (hb : PE X b tb) (hs : Ai9 b) : PE X (.Subscript a b pos) (tOp r ta tb) := by
 intro pins s σ H Q I h;exact Subscript_ (binT ha hb I h fun v u s2 x y H2 I2 rx ry q => hr a b pins s2 σ H2 x y v u Q I2 rx ry q (hs _ _))
def rIxL (K : Ad) : R2 := fun x y H Q => ∃ p xs i v, x = .ref p ∧ y = .int i ∧ SqL K H p xs ∧ atI xs i = some v ∧ Q v H
def rIxT (K : Ad) : R2 := fun x y H Q => ∃ p xs i v, x = .ref p ∧ y = .int i ∧ SqT K H p xs ∧ atI xs i = some v ∧ Q v H
theorem Cr : IxR X (rIxL X.K) := by
 intro value slice pins s σ H x y v u Q I rx ry h hs;obtain ⟨p, xs, i, z, rfl, rfl, hq, he, q⟩ := h
 cases rx
 obtain ⟨t, rfl⟩ := ry;obtain ⟨its, r, pl, hz⟩ := I.list hq;obtain ⟨j, h1, h2, h3, h4, h5⟩ := Adc he;obtain ⟨w, ew, rw'⟩ := r.get h2;have hl := r.length;have hn := Ad1;have fin : EP X pins σ Q w s := ⟨z, H, I, rw', q⟩
 by_cases h0 : 0 ≤ i
 ·have hj : i.toNat = j := by
   rw [seqIndex_of h0 h5] at h1;exact Ah h1
  exact item_listR pl.isList h0 (by omega) (by rw [hj]; simpa using ew) fin hs
 ·have hj : (i + (its.toArray.size : Int)).toNat = j := by
   rw [seqIndex_neg (by omega) h4] at h1;rw [A4, ← hl];exact Ah h1
  exact subscriptTail_builtinR (x := w) pl.isList.typeIs slot_list_getitem.lookup
   (wpAny_getItem_list_neg (Q := fun r s' => r = w ∧ EP X pins σ Q r s') pl.isList (by omega) (by rw [A4] <;> omega) (by omega) (by rw [hj]; simpa using ew) ⟨rfl, fin⟩) hs
theorem Ag8 : IxR X (rIxT X.K) := by
 intro value slice pins s σ H x y v u Q I rx ry h hs;obtain ⟨p, xs, i, z, rfl, rfl, hq, he, q⟩ := h
 cases rx
 obtain ⟨t, rfl⟩ := ry;obtain ⟨its, r, pl, hz⟩ := I.tuple hq;obtain ⟨j, h1, h2, h3, h4, h5⟩ := Adc he;obtain ⟨w, ew, rw'⟩ := r.get h2;have hl := r.length;have hn := Ad1;have fin : EP X pins σ Q w s := ⟨z, H, I, rw', q⟩;exact subscriptTail_builtinR (x := w) pl.typeIs slot_tuple_getitem.lookup
  (getItem_tuple (j := j) (Q := fun r s' => r = w ∧ EP X pins σ Q r s') pl (by omega) (by omega) (by rw [A4, ← hl]; exact h1) (by simpa using ew) ⟨rfl, fin⟩) hs
theorem Tr (lo hi : Option Int) (n : Nat) : (sliceBounds lo hi none n).1 = ((HT.sIx n 0 lo : Nat) : Int) ∧ (sliceBounds lo hi none n).2.1 = ((HT.sIx n n hi : Nat) : Int) ∧ (sliceBounds lo hi none n).2.2 = 1 := by
 refine ⟨?_, ?_, rfl⟩
 ·cases lo with
  | none => simp [sliceBounds, HT.sIx]
  | some i =>
   simp only [sliceBounds, HT.sIx, Option.getD_none, show (1 : Int) > 0 by decide, if_true]
   by_cases h : i < 0
   ·simp only [h, if_true] <;> omega
   ·simp only [h, if_false] <;> omega
 ·cases hi with
  | none => simp [sliceBounds, HT.sIx]
  | some i =>
   simp only [sliceBounds, HT.sIx, Option.getD_none, show (1 : Int) > 0 by decide, if_true]
   by_cases h : i < 0
   ·simp only [h, if_true] <;> omega
   ·simp only [h, if_false] <;> omega
theorem Rl (its : List Value) (lo hi : Option Int) : slicePick its.toArray lo hi none = ((its.drop (HT.sIx its.length 0 lo)).take (HT.sIx its.length its.length hi - HT.sIx its.length 0 lo)).toArray := by
 obtain ⟨h1, h2, h3⟩ := Tr lo hi its.toArray.size;unfold slicePick;rw [h1, h2, h3];simp only [sliceRange_one, pick_run, A4] <;> rfl
def rSlL (K : Ad) : V → Option Int → Option Int → Hp → VK → Prop := fun x lo hi H Q => ∃ a xs, x = .ref a ∧ SqL K H a xs ∧ ∀ p, H p = none → Q (.ref p) (upd H p (.lst (Afb xs lo hi)))
theorem Agr : SlR X (rSlL X.K) := by
 intro pins s σ H x v vl vu lo hi sl Q I rx hs pl pu h;obtain ⟨a, xs, rfl, hx, q⟩ := h
 cases rx
 obtain ⟨its, r, ht, hz⟩ := I.list hx;have hlen := r.length;refine ⟨"list", _, slot_list_getitem.lookup, ht.isList.typeIs, ?_⟩;refine wpAny_getItem_list_slice ht.isList hs pl pu .none (by simp) ?_ (by rw [A4] <;> omega);rw [Rl, ← hlen];refine ⟨.ref s.heap.objs.size, _, I.laid (t' := s.toks) (o := .lst (Afb xs lo hi)) (fun b ob q => Heap.get?_push_of_some _ q) (Ak _) ?_, rfl, q _ (I.hok.fresh (Ak _))⟩;exact ⟨Bz (Xt xs lo hi) hz, _, 0, (r.drop (HT.sIx xs.length 0 lo)).take (HT.sIx xs.length xs.length hi - HT.sIx xs.length 0 lo), Heap.get?_push_size _ rfl⟩
def O0 : V → Bool
 | .non => true
 | .bl _ => true
 | .int _ => true
 | .str _ => true
 | _ => false
def eqV : V → V → Bool
 | .non, .non => true
 | .bl a, .bl b => a == b
 | .bl a, .int b => (if a then 1 else 0) == b
 | .int a, .bl b => a == (if b then 1 else 0)
 | .int a, .int b => a == b
 | .str a, .str b => a == b
 | _, _ => false
theorem Ajx {A : Around} {s : Shared} {y x : V} {u v : Value} (ry : Df y u) (rx : Df x v) (fy : O0 y = true) (fx : O0 x = true) : SeqAt.EqAt A s u v (eqV y x) := by
 cases y with
 | non =>
  cases ry
  cases x with
  | non => cases rx; exact SeqAt.EqAt.same _
  | bl b => cases rx; exact SeqAt.EqAt.none_bool b
  | int b => obtain ⟨t, rfl⟩ := rx; exact SeqAt.EqAt.none_int b t
  | str b => obtain ⟨t, rfl⟩ := rx; exact SeqAt.EqAt.none_str b t
  | _ => exact absurd (show false = true from fx) Bp
 | bl a =>
  cases ry
  cases x with
  | non => cases rx; exact SeqAt.EqAt.bool_none a
  | bl b => cases rx; exact SeqAt.EqAt.bool_bool a b
  | int b => obtain ⟨t, rfl⟩ := rx; exact SeqAt.EqAt.bool_int a b t
  | str b => obtain ⟨t, rfl⟩ := rx; exact SeqAt.EqAt.bool_str a b t
  | _ => exact absurd (show false = true from fx) Bp
 | int a =>
  obtain ⟨t', rfl⟩ := ry
  cases x with
  | non => cases rx; exact SeqAt.EqAt.int_none a t'
  | bl b => cases rx; exact SeqAt.EqAt.int_bool a t' b
  | int b => obtain ⟨t, rfl⟩ := rx; exact SeqAt.EqAt.int_int a t' b t
  | str b => obtain ⟨t, rfl⟩ := rx; exact SeqAt.EqAt.int_str a t' b t
  | _ => exact absurd (show false = true from fx) Bp
 | str a =>
  obtain ⟨t', rfl⟩ := ry
  cases x with
  | non => cases rx; exact SeqAt.EqAt.str_none a t'
  | bl b => cases rx; exact SeqAt.EqAt.str_bool a t' b
  | int b => obtain ⟨t, rfl⟩ := rx; exact SeqAt.EqAt.str_int a t' b t
  | str b => obtain ⟨t, rfl⟩ := rx; exact SeqAt.EqAt.str_str a t' b t
  | _ => exact absurd (show false = true from fx) Bp
 | _ => exact absurd (show false = true from fy) Bp
def eqU (x : V) (u : Value) : Bool := match u with
 | .none => eqV .non x
 | .bool b => eqV (.bl b) x
 | .int i _ => eqV (.int i) x
 | .str z _ => eqV (.str z) x
 | _ => false
theorem Ad8 {x y : V} {u : Value} (r : Df y u) (f : O0 y = true) : eqU x u = eqV y x := by
 cases y with
 | non => cases r; rfl
 | bl b => cases r; rfl
 | int i => obtain ⟨t, rfl⟩ := r; rfl
 | str z => obtain ⟨t, rfl⟩ := r; rfl
 | _ => exact absurd (show false = true from f) Bp
theorem Yj {x : V} : ∀ {xs : List V} {us : List Value}, Cy xs us → xs.all O0 = true → us.any (eqU x) = xs.any fun y => eqV y x
 | _, _, .nil, _ => rfl
 | y :: xs, u :: us, .cons r t, f => by
  rw [List.all_cons, Iu] at f;rw [Gf, Gf, Ad8 r f.1, Yj t f.2]
theorem P5 {A : Around} {s : Shared} {x : V} {v : Value} (rx : Df x v) (fx : O0 x = true) : ∀ {xs : List V} {us : List Value}, Cy xs us → xs.all O0 = true → ∀ u ∈ us, SeqAt.EqAt A s u v (eqU x u)
 | _, _, .nil, _ => fun u hu => by cases hu
 | y :: xs, u :: us, .cons r t, f => fun u' hu => by
  rw [List.all_cons, Iu] at f
  rcases Az.mp hu with rfl | hu
  ·rw [Ad8 r f.1]; exact Ajx r rx f.1 fx
  ·exact P5 rx fx t f.2 u' hu
def inV (x : V) (xs : List V) : Bool := xs.any fun y => eqV y x
def rIn (K : Ad) (neg : Bool) : R2 := fun x y H Q => ∃ p xs, y = .ref p ∧ (SqL K H p xs ∨ SqT K H p xs) ∧ O0 x = true ∧ xs.all O0 = true ∧ Q (.bl (if neg then !inV x xs else inV x xs)) H
theorem Qx : OpR X (compareOp .In) (rIn X.K false) := by
 intro pins s σ H x y v u Q I rx ry h;obtain ⟨p, xs, rfl, hq, fx, fs, q⟩ := h
 cases ry
 rcases hq with hq | hq
 ·obtain ⟨its, r, pl, hz⟩ := I.list hq;refine SeqAt.in_listAt (eqU x) pl.isList (fun w hw => P5 rx fx r fs w (by simpa using hw)) ⟨.bl _, H, I, rfl, ?_⟩;rw [show its.toArray.any (eqU x) = its.any (eqU x) by simp, Yj r fs];exact q
 ·obtain ⟨its, r, pl, hz⟩ := I.tuple hq;refine SeqAt.in_tupleAt (eqU x) pl (fun w hw => P5 rx fx r fs w (by simpa using hw)) ⟨.bl _, H, I, rfl, ?_⟩;rw [show its.toArray.any (eqU x) = its.any (eqU x) by simp, Yj r fs];exact q
theorem C2 : Sh X (.builtin "len") (fun xs H Q => ∃ p ys, xs = [.ref p] ∧ (SqL X.K H p ys ∨ SqT X.K H p ys) ∧ Q (.int ys.length) H) := by
 intro pins s σ H xs us Q I r h;obtain ⟨p, ys, rfl, hq, q⟩ := h;obtain ⟨u, rfl, rx⟩ := Adr r
 cases rx
 have hn := Ad1
 rcases hq with hq | hq
 ·obtain ⟨its, r', pl, hz⟩ := I.list hq;have hlen := r'.length;exact Calls.call_len_list pl.isList (by simp only [A4] <;> omega) ⟨.int ys.length, H, I.tok _, ⟨s.toks + 1, by rw [A4, hlen]⟩, q⟩
 ·obtain ⟨its, r', pl, hz⟩ := I.tuple hq;have hlen := r'.length;exact len_tuple pl (by simp only [A4] <;> omega) ⟨.int ys.length, H, I.tok _, ⟨s.toks + 1, by rw [A4, hlen]⟩, q⟩
def tyV (K : Ad) (T : String) (x : V) (H : Hp) : Prop := match x with
 | .str _ => T = "str"
 | .int _ => T = "int"
 | .ref p => (T = "list" ∧ ∃ xs, SqL K H p xs) ∨ (T = "tuple" ∧ ∃ o, K.lookup p = some o ∧ o.cls = .type "tuple" ∧ o.dict = none) ∨
   (T = "dict" ∧ ((∃ kvs, H p = some (.dK kvs)) ∨ ∃ kvs, H p = some (.dT kvs))) ∨ (T = "set" ∧ ∃ S n, H p = some (.set S n))
 | _ => False
theorem Afn {pins : List (Addr × Obj)} {σ : St} {H : Hp} {s : Shared} {T : String} {x : V} {v : Value} (I : Inv X pins σ H s) (r : Df x v) (ty : tyV X.K T x H) :
  s.TypeIs v T ∧ ∀ a, v = .ref a → ∃ ob, s.heap.get? a = some ob ∧ ob.dict = none := by
 cases x with
 | str z =>
  obtain ⟨t, rfl⟩ := r
  cases (show T = "str" from ty)
  exact ⟨typeIs_str s z t, fun _ e => nomatch e⟩
 | int i =>
  obtain ⟨t, rfl⟩ := r
  cases (show T = "int" from ty)
  exact ⟨typeIs_int s i t, fun _ e => nomatch e⟩
 | ref p =>
  cases r
  rcases ty with ⟨rfl, xs, hq⟩ | ⟨rfl, o, hk, hc, hd⟩ | ⟨rfl, hk⟩ | ⟨rfl, S, n, hk⟩
  ·obtain ⟨its, _, pl, _⟩ := I.list hq;refine ⟨pl.isList.typeIs, fun a e => ?_⟩
   cases e
   obtain ⟨o, n, e, c, hd, _⟩ := pl;exact ⟨o, e, hd⟩
  ·refine ⟨⟨o, I.kIn p o hk, hc⟩, fun a e => ?_⟩
   cases e
   exact ⟨o, I.kIn _ o hk, hd⟩
  ·have z : ∃ o, s.heap.get? p = some o ∧ o.ExactDict := by
    rcases hk with ⟨kvs, hk⟩ | ⟨kvs, hk⟩
    ·obtain ⟨_, _, _, _, o, _, _, e, ex, _⟩ := I.hok p _ hk;exact ⟨o, e, ex⟩
    ·obtain ⟨_, _, _, _, o, _, _, e, ex, _⟩ := I.hok p _ hk;exact ⟨o, e, ex⟩
   obtain ⟨o, e, ex⟩ := z;refine ⟨⟨o, e, ex.1⟩, fun a e2 => ?_⟩
   cases e2
   exact ⟨o, e, ex.2.1⟩
  ·obtain ⟨o, _, _, _, e, ex, _⟩ := I.hok p _ hk;refine ⟨⟨o, e, ex.1⟩, fun a e2 => ?_⟩
   cases e2
   exact ⟨o, e, ex.2.1⟩
 | _ => exact Dn ty
def tBM0 (K : Ad) (T : String) (r : V → List V → Hp → VK → Prop) (to : TE) : TE := fun σ H Q => to σ H fun x H1 => tyV K T x H1 ∧ r x [] H1 Q
def tBM (K : Ad) (T : String) (r : V → List V → Hp → VK → Prop) (to : TE) (t : TA) : TE := fun σ H Q => to σ H fun x H1 => tyV K T x H1 ∧ t σ H1 fun xs H2 => r x xs H2 Q
variable {o e : Expr} {es : List Expr} {to : TE} {t : TA} {name : Str} {apos cpos : Pos} {T id : String} {r : V → List V → Hp → VK → Prop}
theorem Ag4 (pa : PlainAttrs T) (slot : Slot T name id) (hty : typeOf (.builtin id) = pure (.type "method_descriptor")) (hm : MtR X id r) (ho : PE X o to)
  (hbase : attributeBase o name X.env (eval o X.env) = eval o X.env := by rfl) (hline : (apos.endLine == cpos.line) = true := by rfl) : PE X (.Call (.Attribute o name apos) [] [] cpos) (tBM0 X.K T r to) := by
 intro pins s σ H Q I h;refine wpAny_Call_method0_late hbase hline (thn (ho pins s σ H _ I h) fun v s1 ⟨x, H1, I1, r1, ty, q1⟩ => ?_);obtain ⟨h1, h2⟩ := Afn I1 r1 ty;exact ⟨T, id, pa, slot, hty, h1, h2, Calls.callWith_builtin rfl (PySem.evalArgs_none (hm pins s1 σ H1 x [] v [] Q I1 r1 .nil q1))⟩
theorem M6 (pa : PlainAttrs T) (slot : Slot T name id) (hty : typeOf (.builtin id) = pure (.type "method_descriptor")) (hm : MtR X id r) (ho : PE X o to) (ha : PA X (e :: es) t)
  (hbase : attributeBase o name X.env (eval o X.env) = eval o X.env := by rfl)
  (hfew : ((backTo cpos (starEach (e :: es) X.env)).all (fun x => !x.1) && (backToKw cpos (keywordEach [] X.env)).all (fun x => x.1.isSome)
   && decide ((e :: es).length + ([] : List Keyword).length + (if ([] : List Keyword).isEmpty then 0 else 1) < 30)) = true := by rfl)
  (hline : (apos.endLine == cpos.line) = true := by rfl) (hs : starEach (e :: es) X.env = (false, eval e X.env) :: starEach es X.env := by rfl) (hplain : (backTo cpos (starEach es X.env)).any (·.1) = false := by rfl) :
  PE X (.Call (.Attribute o name apos) (e :: es) [] cpos) (tBM X.K T r to t) := by
 intro pins s σ H Q I h;refine wpAny_Call_method_late hbase hfew hline rfl (thn (ho pins s σ H _ I h) fun v s1 ⟨x, H1, I1, r1, ty, q1⟩ => ?_);obtain ⟨h1, h2⟩ := Afn I1 r1 ty;refine ⟨T, id, pa, slot, hty, h1, h2, ?_⟩;have hA := ha cpos pins s1 σ H1 _ I1 q1;rw [hs] at hA ⊢;refine Calls.callWith_builtin (by show (false || (backTo cpos (starEach es X.env)).any (·.1)) = false; rw [hplain] <;> rfl) (Calls.evalArgs_plain ?_);exact thn hA fun us s2 ⟨vs, H2, I2, r2, q2⟩ => hm pins s2 σ H2 x vs v us Q I2 r1 r2 q2
/- xs.append(e), list.index on a module's tuple .. are MtR facts of 06m -/
end
end L2
namespace L2
open PySem PySem.Spec PyProof.Rows
def MtM (X : Cx) (id : String) (r : V → List V → Hp → VK → Prop) : Prop :=
 ∀ (pins : List (Addr × Obj)) (s : Shared) (σ : St) (H : Hp) (x : V) (xs : List V) (v : Value) (us : List Value) (Q : VK), Inv X pins σ H s → Df x v → Cy xs us → r x xs H Q →
  wpAny (model X.prog X.w) X.A (call (.builtin id) (v :: us)) (EP X pins σ Q) X.xe s
theorem Cy.one : ∀ {x : V} {us : List Value}, Cy [x] us → ∃ u, us = [u] ∧ Df x u
 | _, _, .cons r .nil => ⟨_, rfl, r⟩
theorem Cy.zero : ∀ {us : List Value}, Cy [] us → us = []
 | _, .nil => rfl
theorem Cy.dropLast {xs : List V} {us : List Value} (h : Cy xs us) : Cy xs.dropLast us.dropLast := by
 induction h with
 | nil => exact .nil
 | cons r t ih =>
  cases t with
  | nil => exact .nil
  | cons q t' => exact .cons r ih
theorem Cy.eraseIdx : ∀ {xs : List V} {us : List Value} (i : Nat), Cy xs us → Cy (xs.eraseIdx i) (us.eraseIdx i)
 | _, _, _, .nil => .nil
 | _, _, 0, .cons _ t => t
 | _, _, i + 1, .cons r t => .cons r (Cy.eraseIdx i t)
theorem Z5 {α : Type} (l : List α) : l.eraseIdx (l.length - 1) = l.dropLast := by
 induction l with
 | nil => rfl
 | cons a r ih =>
  cases r with
  | nil => rfl
  | cons b r =>
   have e : (a :: b :: r).length - 1 = ((b :: r).length - 1) + 1 := by
    have h1 : (a :: b :: r).length = r.length + 2 := rfl;have h2 : (b :: r).length = r.length + 1 := rfl;omega
   rw [e, List.eraseIdx_cons_succ, ih]
   all_goals rfl
theorem Wd {α : Type} : ∀ (l : List α) (i : Nat), (l.eraseIdx i).length ≤ l.length
 | [], _ => Ak _
 | _ :: _, 0 => F7 _
 | _ :: r, i + 1 => Tf (Wd r i)
section
variable {X : Cx} {pins : List (Addr × Obj)} {σ : St} {H : Hp} {s : Shared} {l b : Addr} {xs ys zs : List V}
theorem Inv.lset {its its' : List Value} {n : Nat} {f : Array Value → Array Value} {t' : Nat} (I : Inv X pins σ H s) (hH : H l = some (.lst xs))
  (e : s.heap.get? l = some { cls := .type "list", data := .seq its.toArray n }) (hf : f its.toArray = its'.toArray) (hv : Cy ys its') (hz : ys.length ≤ sizeLine) :
  Inv X pins σ (upd H l (.lst ys)) { s with heap := s.heap.update l (Obj.mapSeq f), toks := t' } := by
 have q := PySem.IsL.update e f;rw [hf] at q;refine I.write (x := l) (e := l) (by rw [hH]; exact trivial) (.inl rfl) (fun b' u hb hu => (Heap.get?_update_other s.heap (Obj.mapSeq f) (Rf hb)).trans hu) ⟨_, q⟩ ?_;exact ⟨hz, its', _, hv, q⟩
theorem Inv.lnew {its : List Value} {t' : Nat} (I : Inv X pins σ H s) (hv : Cy ys its) (hz : ys.length ≤ sizeLine) :
  Inv X pins σ (upd H s.heap.objs.size (.lst ys)) { s with heap := s.heap.push { cls := .type "list", data := .seq its.toArray }, toks := t' } :=
 I.laid (fun _ _ q => Heap.get?_push_of_some _ q) (Ak _) ⟨hz, its, 0, hv, Heap.get?_push_size _ rfl⟩
theorem Inv.fresh (I : Inv X pins σ H s) : H s.heap.objs.size = none := I.hok.fresh (Ak _)
theorem Inv.lstM (I : Inv X pins σ H s) (hH : H l = some (.lst xs)) : xs.length ≤ sizeLine ∧ ∃ (its : List Value) (n : Nat), Cy xs its ∧ xs.length = its.length ∧ s.heap.get? l = some { cls := .type "list", data := .seq its.toArray n } := by
 obtain ⟨z, its, n, r, e⟩ := I.hok l _ hH;exact ⟨z, its, n, r, r.length, e⟩
theorem Aeo {n : Nat} (h : n ≤ sizeLine) : Builtin.List.listTooLong n = false := by
 unfold Builtin.List.listTooLong;exact decide_eq_false (by omega)
end
section
variable {X : Cx}
def Acr : V → List V → Hp → VK → Prop := fun x vs H Q => ∃ l xs y, x = .ref l ∧ vs = [y] ∧ H l = some (.lst xs) ∧ xs.length < sizeLine ∧ Q .non (upd H l (.lst (xs ++ [y])))
theorem Jb : MtM X "list.append" Acr := by
 intro pins s σ H x vs v us Q I rx rv h;obtain ⟨l, xs, y, rfl, rfl, hH, hz, q⟩ := h
 cases rx
 obtain ⟨u, rfl, ru⟩ := rv.one;obtain ⟨z, its, n, r, hl, e⟩ := I.lstM hH;refine call_meets F.slot_list_append ⟨_, e, rfl⟩ F.entry_list_append (F.args_list_append_2 _ _) (PySem.list_append l its.toArray n u (by rw [A4]; omega)) ⟨e, ?_⟩;refine ⟨.non, _, I.lset (its' := its ++ [u]) hH e (by simp) (r.append (.cons ru .nil)) ?_, rfl, q⟩;rw [A6, List.length_singleton];omega
def Ah3 : V → List V → Hp → VK → Prop := fun x vs H Q => ∃ l b xs zs, x = .ref l ∧ vs = [.ref b] ∧ H l = some (.lst xs) ∧ H b = some (.lst zs) ∧ xs.length + zs.length ≤ sizeLine ∧ Q .non (upd H l (.lst (xs ++ zs)))
theorem Nh : MtM X "list.extend" Ah3 := by
 intro pins s σ H x vs v us Q I rx rv h;obtain ⟨l, b, xs, zs, rfl, rfl, hH, hB, hz, q⟩ := h
 cases rx
 obtain ⟨u, rfl, ru⟩ := rv.one
 cases ru
 obtain ⟨z, its, n, r, hl, e⟩ := I.lstM hH;obtain ⟨z2, its2, n2, r2, hl2, e2⟩ := I.lstM hB;have hsz : its.toArray.size + its2.toArray.size ≤ sizeLine := by rw [A4, A4]; omega
 have hlong : ¬ (!its.toArray.isEmpty && Builtin.List.listTooLong (its.toArray.size + its2.toArray.size)) = true := by
  rw [Aeo hsz, Bool.and_false];exact Bp
 refine call_meets F.slot_list_extend ⟨_, e, rfl⟩ F.entry_list_extend (F.args_list_extend_2 _ _)
  (AutoSeq1.list_extend_list_list_0 l its.toArray n b its2.toArray n2 hlong (by rw [A4]; omega) (by omega)) ⟨e, e2, ?_⟩
 refine ⟨.non, _, I.lset (its' := its ++ its2) hH e (by simp) (r.append r2) ?_, rfl, q⟩;rw [A6];omega
def rPop : V → List V → Hp → VK → Prop := fun x vs H Q => ∃ l xs y, x = .ref l ∧ vs = [] ∧ H l = some (.lst xs) ∧ xs[xs.length - 1]? = some y ∧ Q y (upd H l (.lst xs.dropLast))
theorem Ajl : MtM X "list.pop" rPop := by
 intro pins s σ H x vs v us Q I rx rv h;obtain ⟨l, xs, y, rfl, rfl, hH, hy, q⟩ := h
 cases rx
 have hus := rv.zero;subst hus;obtain ⟨z, its, n, r, hl, e⟩ := I.lstM hH;obtain ⟨u, hu, ru⟩ := r.get hy;have hy' : its.toArray[its.toArray.size - 1]? = some u := by
  show its.toArray[its.length - 1]? = some u;rw [← Wy, ← hl];exact hu
 refine call_meets F.slot_list_pop ⟨_, e, rfl⟩ F.entry_list_pop (F.args_list_pop_1 _) (MeetsSeq.list_pop_last l its.toArray n u hy' (by rw [A4]; omega)) ⟨e, ?_⟩;refine ⟨y, _, I.lset (its' := its.dropLast) hH e ?_ r.dropLast ?_, ru, q⟩
 ·show its.toArray.eraseIdxIfInBounds (its.toArray.size - 1) = its.dropLast.toArray;rw [A4, Adn, Z5]
 ·rw [List.length_dropLast];omega
def Aix : V → List V → Hp → VK → Prop := fun x vs H Q => ∃ l xs i k y, x = .ref l ∧ vs = [.int i] ∧ H l = some (.lst xs) ∧ -(2 ^ 63) ≤ i ∧ i < 2 ^ 63 ∧ seqIndex? i xs.length = some k ∧ xs[k]? = some y ∧ Q y (upd H l (.lst (xs.eraseIdx k)))
theorem Aeq : MtM X "list.pop" Aix := by
 intro pins s σ H x vs v us Q I rx rv h;obtain ⟨l, xs, i, k, y, rfl, rfl, hH, h1, h2, hk, hy, q⟩ := h
 cases rx
 obtain ⟨u, rfl, ru⟩ := rv.one;obtain ⟨t, rfl⟩ := ru;obtain ⟨z, its, n, r, hl, e⟩ := I.lstM hH;obtain ⟨w, hw, rw'⟩ := r.get hy;refine call_meets F.slot_list_pop ⟨_, e, rfl⟩ F.entry_list_pop (F.args_list_pop_2 _ _)
  (MeetsSeq.list_pop_at l its.toArray n i t k w (fitsIndex_both h1 h2) (by rw [A4, ← hl]; exact hk) (by rw [← Wy]; exact hw) (by rw [A4]; omega)) ⟨e, ?_⟩
 refine ⟨y, _, I.lset (its' := its.eraseIdx k) hH e ?_ (r.eraseIdx k) ?_, rw', q⟩
 ·show its.toArray.eraseIdxIfInBounds k = (its.eraseIdx k).toArray;rw [Adn]
 ·have := Wd xs k;omega
def rCat : R2 := fun x y H Q => ∃ l b xs zs, x = .ref l ∧ y = .ref b ∧ H l = some (.lst xs) ∧ H b = some (.lst zs) ∧ xs.length + zs.length ≤ sizeLine ∧ ∀ p, H p = none → Q (.ref p) (upd H p (.lst (xs ++ zs)))
theorem Mi : OpR X (binaryOp .Add) rCat := by
 intro pins s σ H x y v u Q I rx ry h;obtain ⟨l, b, xs, zs, rfl, rfl, hH, hB, hz, q⟩ := h
 cases rx
 cases ry
 obtain ⟨z, its, n, r, hl, e⟩ := I.lstM hH;obtain ⟨z2, its2, n2, r2, hl2, e2⟩ := I.lstM hB;refine PySem.P.add_list e e2 ?_ (by rw [A4, A4]; omega);have ea : its.toArray ++ its2.toArray = (its ++ its2).toArray := by simp
 rw [ea];exact ⟨.ref _, _, I.lnew (t' := s.toks) (r.append r2) (by rw [A6]; omega), rfl, q _ I.fresh⟩
end
section
variable {prog : Program} {w : World} {A : Around} {E : Value → Shared → Prop} {s : Shared}
set_option maxRecDepth 100000 in
end
section
variable {X : Cx}
end
end L2
namespace L2
open PySem PySem.Spec PyProof.Rows
theorem Cy.ints : ∀ {ns : List Int} {us : List Value}, Cy (ns.map V.int) us → IntsAre us ns
 | [], us, h => by
  rw [Vo] at h
  cases h
  exact IntsAre.nil
 | n :: ns, us, h => by
  rw [Bc] at h
  cases h with
  | cons r t =>
   obtain ⟨k, rfl⟩ := r;exact IntsAre.cons n k (Cy.ints t)
theorem Nu : ∀ {us : List Value} {ns : List Int}, IntsAre us ns → Cy (ns.map V.int) us
 | _, _, .nil => by rw [Vo]; exact Paired.nil
 | _, _, .cons n t h => by rw [Bc]; exact Paired.cons (show Df (V.int n) (Value.int n t) from ⟨t, rfl⟩) (Nu h)
theorem Cy.bls : ∀ {bs : List Bool} {us : List Value}, Cy (bs.map V.bl) us → us = bs.map Value.bool
 | [], us, h => by
  rw [Vo] at h
  cases h
  rfl
 | b :: bs, us, h => by
  rw [Bc] at h
  cases h with
  | cons r t =>
   cases r
   rw [Cy.bls t, Bc]
theorem Cy.ref1 {a : Addr} {us : List Value} (r : Cy [V.ref a] us) : us = [Value.ref a] := by
 cases r with
 | cons r t =>
  cases t
  cases r
  rfl
section
variable {prog : Program} {w : World} {A : Around} {E : Value → Shared → Prop} {s : Shared} {l : Addr} {its : List Value} {ns : List Int} {Q : Value → Shared → Prop}
theorem Ahm (hh : A.handled = none) (hl : s.heap.IsList l its.toArray) (hi : IntsAre its ns) (hne : 0 < ns.length)
  (h : ∀ h' tk M t', (∀ b o, s.heap.get? b = some o → h'.get? b = some o) → M ∈ ns → (∀ a, a ∈ ns → M ≤ a) → Q (.int M t') { s with heap := h', toks := tk }) : wpAny (model prog w) A (call (.builtin "min") [.ref l]) Q E s := by
 obtain ⟨xs, e⟩ := hi.allInts.items;have hn : numsOf (intItems xs).toList = ns := by rw [← e]; exact hi.numsOf
 rw [nums_intItems] at hn;subst hn;rw [e] at hl;have hsz : 0 < xs.size := by simpa using hne
 refine PySem.min_intList hh hl hsz fun v h' tk hv hk => ?_;obtain ⟨t, rfl⟩ := intItems_at hv;obtain ⟨h1, h2⟩ := argBest_lt (numAt xs) (xs.size - 1);refine h h' tk _ t hk ?_ fun a ha => ?_
 ·rw [numAt_eq]; exact PySem.getD_mem (by rw [Ac, Ep]; omega)
 ·obtain ⟨j, hj, rfl⟩ := mem_getD ha;rw [Ac, Ep] at hj;rw [← numAt_eq]; exact h2 j (by omega)
end
section
variable {X : Cx}
def rMin (K : Ad) : List V → Hp → VK → Prop := fun vs H Q => ∃ (a : Addr) (ns : List Int), vs = [V.ref a] ∧ SqL K H a (ns.map V.int) ∧ 0 < ns.length ∧ ∀ m, m ∈ ns → (∀ y, y ∈ ns → m ≤ y) → Q (.int m) H
theorem Ak1 (hc : X.calm = true) : Sh X (.builtin "min") (rMin X.K) := by
 intro pins s σ H vs us Q I r h;obtain ⟨a, ns, rfl, hs, hne, q⟩ := h;obtain ⟨its, rv, hl, _⟩ := I.list hs;rw [Cy.ref1 r];exact Ahm (I.ok.hd hc) hl.isList rv.ints hne fun h' tk m t' hk h1 h2 => ⟨.int _, H, I.kept hk, ⟨_, rfl⟩, q m h1 h2⟩
theorem Yb {n : Nat} (h : n < 64) : n ≤ sizeLine := by rw [sizeLine_eq]; omega
end
theorem Aev {prog : Program} {w : World} {A : Around} {E : Value → Shared → Prop} {s : Shared} {l : Addr} {items : Array Value} {Q : Value → Shared → Prop} (hl : s.heap.IsList l items)
  (h : ∀ s₂ : Shared, s₂ = { s with heap := s.heap.push { cls := .type "list_iterator", data := .fields #[.ref l, .int 0 0] } } →
   (s₂.heap.IsListIter s.heap.objs.size l 0 ∧ s₂.heap.IsList l items) → l ≠ s.heap.objs.size → Q (.ref s.heap.objs.size) s₂) : wpAny (model prog w) A (pyIter (.ref l)) Q E s := by
 have hlt : l < s.heap.objs.size := by obtain ⟨_, e, _⟩ := hl; exact Heap.lt_size e
 exact wpAny_pyIter_list hl (h _ rfl ⟨⟨_, Heap.get?_push_size _ rfl, rfl, rfl⟩, hl.push _⟩ (Cj hlt))
theorem Wz {prog : Program} {w : World} {A : Around} {bs : List Bool} {its : List Value} (e : its = bs.map Value.bool) :
  TruthOf prog w A (fun i v => its.toArray[i]? = some v) (fun i => bs.getD i false) := fun i v s Q E hv hq => by
 have hv' : its[i]? = some v := by simpa using hv
 rw [e, Ap] at hv';obtain ⟨b, hb, rfl⟩ := Vk.mp hv';have hg : bs.getD i false = b := by rw [O6, hb] <;> rfl
 have hq' : Q (bs.getD i false) s := hq;rw [hg] at hq';exact wpAny_truthy_bool hq'
theorem Wq : ∀ bs : List Bool, (Be bs.length).any (fun i => bs.getD i false) = bs.any id
 | [] => rfl
 | b :: bs => by
  rw [A2, List.range_succ_eq_map, Gf, Adm, Gf, ← Wq bs]
  all_goals rfl
section
variable {X : Cx}
def rAny (K : Ad) : List V → Hp → VK → Prop := fun vs H Q => ∃ (a : Addr) (bs : List Bool), vs = [V.ref a] ∧ SqL K H a (bs.map V.bl) ∧ Q (.bl (bs.any id)) H
theorem Agc (hc : X.calm = true) : Sh X (.builtin "any") (rAny X.K) := by
 intro pins s σ H vs us Q I r h;obtain ⟨a, bs, rfl, hs, q⟩ := h;obtain ⟨its, rv, hl, _⟩ := I.list hs;rw [Cy.ref1 r];have hb := rv.bls;refine call_any_walk (Aev hl.isList fun s₂ e2 st hne => ?_);subst e2;refine ⟨_, _, _, _, _, _, _, rfl, Walks.list (A := X.A.in1) (I.ok.hd hc) _ a hne its.toArray, st, Wz hb, fun h' tk hk => ?_⟩;refine ⟨.bl _, H, I.kept fun b o eo => hk b o (fun hmem => ?_) (Heap.get?_push_of_some _ eo), ?_, q⟩
 ·rcases Az.mp hmem with e1 | hmem
  ·exact absurd (e1 ▸ Heap.lt_size eo) (Ek _)
  ·cases hmem
 ·show Value.bool _ = Value.bool _;rw [← Wq, hb, A4, Ac]
end
section
variable {X : Cx} {pins : List (Addr × Obj)} {σ : St} {H : Hp} {s : Shared}
end
section
variable {X : Cx}
end
end L2
namespace L2
open PySem PySem.Spec PyProof.Rows
abbrev Agg (h : Heap) (c : Addr) (v : Option Value) : Prop := h.IsCell c v
def relS (scope sc : Scope) : Scope :=
 { scope with names := scope.names.map fun (n, k) => if (k == .free && sc.kind == .function && sc.names.lookup n == some .cell) then (n, .cell) else (n, k) }
def Ef (cells : List (Str × Addr)) : List (Str × NameKind) → List (Str × Addr) → List (Str × Addr)
 | [], acc => acc
 | (n, k) :: r, acc => if k == .free then Ef cells r ((n, (cells.lookup n).getD 0) :: acc) else Ef cells r acc
theorem Og (env : Env) (f : Str × NameKind → List (Str × Addr) → Sem (ForInStep (List (Str × Addr))))
  (hf : ∀ n k c, f (n, k) c = if k == .free then (do let a ← cellOf env n; pure (.yield ((n, a) :: c))) else pure (.yield c)) :
  ∀ (names : List (Str × NameKind)) (acc : List (Str × Addr)), (∀ y ∈ names, y.2 = .free → ∃ c, env.cells.lookup y.1 = some c) → forIn names acc f = pure (Ef env.cells names acc)
 | [], acc, _ => by rw [Xz]; rfl
 | (n, k) :: r, acc, h => by
  rw [Agl, hf];have ih := fun acc => Og env f hf r acc fun y hy => h y (Am _ hy);unfold Ef
  by_cases hk : (k == NameKind.free) = true
  ·rw [if_pos hk, if_pos hk];obtain ⟨c, hc⟩ := h (n, k) A0 (by simpa using hk);have e : cellOf env n = pure c := by unfold cellOf; rw [hc]
   rw [e];have e2 : (env.cells.lookup n).getD 0 = c := by rw [hc]; rfl
   rw [e2];exact ih _
  ·rw [if_neg hk, if_neg hk];exact ih _
theorem Aa6 {scope : Scope} {env : Env} (h : ∀ y ∈ scope.names, y.2 = .free → ∃ c, env.cells.lookup y.1 = some c) : closureFor scope env = pure (Ef env.cells scope.names []) := by
 simp only [closureFor];rw [Og env _ (fun n k c => rfl) scope.names [] h];rfl
theorem Oa {α : Type} : ∀ {l : List (Str × α)} {n : Str} {c : α}, (n, c) ∈ l → ∃ c', l.lookup n = some c'
 | (k, v) :: r, n, c, h => by
  rw [D6]
  cases hb : n == k with
  | true => exact ⟨_, rfl⟩
  | false =>
   rcases Az.mp h with e | h
   ·cases e; simp at hb
   ·exact Oa h
theorem J0 {cells : List (Str × Addr)} : ∀ {names : List (Str × NameKind)} {acc : List (Str × Addr)} {n : Str} {c : Addr}, (n, c) ∈ Ef cells names acc → (n, c) ∈ acc ∨ ((n, .free) ∈ names ∧ c = (cells.lookup n).getD 0)
 | [], _, _, _, h => .inl h
 | (m, k) :: r, acc, n, c, h => by
  unfold Ef at h
  split at h
  ·rename_i hk;have hk : k = .free := by simpa using hk
   rcases J0 h with h | ⟨h1, h2⟩
   ·rcases Az.mp h with e | h
    ·cases e; exact .inr ⟨hk ▸ A0, rfl⟩
    ·exact .inl h
   ·exact .inr ⟨Am _ h1, h2⟩
  ·rcases J0 h with h | ⟨h1, h2⟩
   ·exact .inl h
   ·exact .inr ⟨Am _ h1, h2⟩
theorem L0 {cells : List (Str × Addr)} : ∀ {names : List (Str × NameKind)} {acc : List (Str × Addr)} {p : Str × Addr}, p ∈ acc → p ∈ Ef cells names acc
 | [], _, _, h => h
 | (m, k) :: r, acc, p, h => by
  unfold Ef
  split
  ·exact L0 (Am _ h)
  ·exact L0 h
theorem Lz {cells : List (Str × Addr)} : ∀ {names : List (Str × NameKind)} {acc : List (Str × Addr)} {n : Str}, (n, .free) ∈ names → (n, (cells.lookup n).getD 0) ∈ Ef cells names acc
 | (m, k) :: r, acc, n, h => by
  unfold Ef
  rcases Az.mp h with e | h
  ·cases e
   exact L0 A0
  ·split
   ·exact Lz h
   ·exact Lz h
theorem Kq : ∀ {names : List (Str × NameKind)} {h : Heap} {acc : List (Str × Addr)} {x : Str} {c : Addr}, (x, c) ∈ cellsFrom h.objs.size names acc →
  (x, c) ∈ acc ∨ ((x, .cell) ∈ names ∧ h.objs.size ≤ c ∧ Agg (pushCells h names) c none)
 | [], _, _, _, _, h => .inl h
 | (n, k) :: r, h, acc, x, c, hm => by
  unfold cellsFrom at hm;unfold pushCells
  split at hm
  ·rename_i hk;rw [if_pos hk];have hk : k = .cell := by simpa using hk
   rw [← Heap.size_push h { cls := .type "cell", data := .cell none }] at hm
   rcases Kq hm with hm | ⟨h1, h2, h3⟩
   ·rcases Az.mp hm with e | hm
    ·cases e
     exact .inr ⟨hk ▸ A0, Ak _, _, pushCells_keeps r _ _ _ (Heap.get?_push_size _ rfl), rfl⟩
    ·exact .inl hm
   ·rw [Heap.size_push] at h2;exact .inr ⟨Am _ h1, Rh h2, h3⟩
  ·rename_i hk;rw [if_neg hk]
   rcases Kq hm with hm | ⟨h1, h2, h3⟩
   ·exact .inl hm
   ·exact .inr ⟨Am _ h1, h2, h3⟩
theorem Nl : ∀ {names : List (Str × NameKind)} {n : Nat} {acc : List (Str × Addr)} {p : Str × Addr}, p ∈ acc → p ∈ cellsFrom n names acc
 | [], _, _, _, h => h
 | (m, k) :: r, n, acc, p, h => by
  unfold cellsFrom
  split
  ·exact Nl (Am _ h)
  ·exact Nl h
theorem Q9 : ∀ {names : List (Str × NameKind)} {n : Nat} {acc : List (Str × Addr)} {x : Str}, (x, .cell) ∈ names → ∃ c, (x, c) ∈ cellsFrom n names acc
 | (m, k) :: r, n, acc, x, h => by
  unfold cellsFrom
  rcases Az.mp h with e | h
  ·cases e
   exact ⟨n, Nl A0⟩
  ·split
   ·exact Q9 h
   ·exact Q9 h
theorem Q8 : ∀ {names : List (Str × NameKind)} {h : Heap} {acc : List (Str × Addr)} {x y : Str} {c : Addr}, (∀ p ∈ acc, p.2 < h.objs.size) → (∀ x y c, (x, c) ∈ acc → (y, c) ∈ acc → x = y) →
  (x, c) ∈ cellsFrom h.objs.size names acc → (y, c) ∈ cellsFrom h.objs.size names acc → x = y
 | [], _, _, _, _, _, _, hi, h1, h2 => hi _ _ _ h1 h2
 | (n, k) :: r, h, acc, x, y, c, hl, hi, h1, h2 => by
  unfold cellsFrom at h1 h2
  split at h1
  ·rename_i hk;rw [if_pos hk] at h2;rw [← Heap.size_push h { cls := .type "cell", data := .cell none }] at h1 h2;refine Q8 (h := h.push _) (fun p hp => ?_) (fun x y c a b => ?_) h1 h2
   ·rw [Heap.size_push]
    rcases Az.mp hp with rfl | hp
    ·exact Lc _
    ·exact Rg (hl p hp)
   ·rcases Az.mp a with e | a <;> rcases Az.mp b with e' | b
    ·cases e; cases e'; rfl
    ·cases e; exact absurd (hl _ b) (Ek _)
    ·cases e'; exact absurd (hl _ a) (Ek _)
    ·exact hi _ _ _ a b
  ·rename_i hk;rw [if_neg hk] at h2;exact Q8 hl hi h1 h2
theorem Xj {M : Model} {A : Around} {E : Value → Shared → Prop} {s : Shared} {scope : Scope} {globals : Addr} {closure : List (Str × Addr)} {qual : Str} {func : Option Addr} {code : Value} {around : Env} {builtins : Addr} {Q : Env → Shared → Prop}
  (h : Q (newEnv scope s.heap.objs.size globals (cellsFrom (s.heap.objs.size + 1) scope.names closure) qual func code (some around) builtins)
   { s with heap := pushCells (s.heap.push { cls := .type "dict", data := .dict #[] }) scope.names }) :
  wpAny M A (newFunctionEnv scope globals closure [] qual func code (some around) builtins) Q E s := by
 simp only [newFunctionEnv, Option.isSome_some, if_true];refine wpAny_bind (wpAny_alloc ?_);refine wpAny_bind (wpAny_layCells _ (fun n k c => rfl) scope.names closure _ _ ?_);rw [show ({ s with heap := s.heap.push { cls := .type "dict", data := .dict #[] } } : Shared).heap.objs.size = s.heap.objs.size + 1 from Heap.size_push ..];rw [Xz];exact wpAny_bind (wpAny_pure (wpAny_pure h))
theorem Lv {sc : Scope} : ∀ {names : List (Str × NameKind)} {x : Str} {k : NameKind},
  (names.map fun (n, k) => if (k == NameKind.free && sc.kind == .function && sc.names.lookup n == some .cell) then (n, NameKind.cell) else (n, k)).lookup x = some k →
  ∃ k', names.lookup x = some k' ∧ (k = k' ∨ (k' = .free ∧ k = .cell))
 | [], _, _, h => by simp at h
 | (n, k₀) :: r, x, k, h => by
  have ih := @Lv sc r x k;have h' : Ee x ((if (k₀ == NameKind.free && sc.kind == .function && sc.names.lookup n == some .cell) = true then (n, NameKind.cell) else (n, k₀)) :: (r.map _)) = some k := h
  cases hx : x == n with
  | true =>
   simp only [D6, hx]
   by_cases hc : (k₀ == NameKind.free && sc.kind == .function && sc.names.lookup n == some .cell) = true
   ·rw [if_pos hc] at h';simp only [D6, hx] at h'
    cases h'
    simp only [Iu, beq_iff_eq] at hc;exact ⟨k₀, rfl, .inr ⟨hc.1.1, rfl⟩⟩
   ·rw [if_neg hc] at h';simp only [D6, hx] at h'
    cases h'
    exact ⟨_, rfl, .inl rfl⟩
  | false =>
   simp only [D6, hx]
   by_cases hc : (k₀ == NameKind.free && sc.kind == .function && sc.names.lookup n == some .cell) = true
   ·rw [if_pos hc] at h';simp only [D6, hx] at h';exact ih h'
   ·rw [if_neg hc] at h';simp only [D6, hx] at h';exact ih h'
structure Ac9 (N : List Str) (sc scope : Scope) (own : List (Str × Nat)) : Prop where
 kind : scope.kind = .function
 uniq : ∀ y ∈ scope.names, scope.names.lookup y.1 = some y.2
 ix : ∀ p ∈ own, N[p.2]? = some p.1
 free : ∀ y ∈ scope.names, y.2 = .free → sc.names.lookup y.1 = some .cell ∨ sc.names.lookup y.1 = some .free
 own : ∀ y ∈ scope.names, y.2 = .local ∨ y.2 = .cell → y.1 ∈ own.map (·.1) ∨ y.1 ∉ N
def F9 (σ : St) : List Nat → St
 | [] => σ
 | v :: vs => (F9 σ vs).set v none
theorem Lf (σ : St) : ∀ vs : List Nat, (F9 σ vs).length = σ.length
 | [] => rfl
 | v :: vs => by unfold F9; rw [Dh, Lf σ vs]
theorem Ql {σ : St} {i : Nat} {x : V} : ∀ {vs : List Nat}, (F9 σ vs)[i]? = some (some x) → σ[i]? = some (some x) ∧ i ∉ vs
 | [], h => ⟨h, by simp⟩
 | v :: vs, h => by
  unfold F9 at h
  by_cases hi : v = i
  ·subst hi
   by_cases hv : v < (F9 σ vs).length
   ·rw [Bm hv] at h; cases h
   ·rw [K7 (by simpa using hv)] at h; cases h
  ·rw [Bh hi] at h;obtain ⟨h1, h2⟩ := Ql h;exact ⟨h1, by simp only [Az, not_or]; exact ⟨fun e => hi e.symm, h2⟩⟩
abbrev Cx.blk (X : Cx) (s : Shared) (H : Hp) (scope : Scope) (cenv : Env) (fp : List Addr) : Cx := { X with s_0 := s, H_0 := H, env := cenv, outer := X.stack, ex := fp, fn := fun x => scope.names.lookup x == some .cell, pn := [], xe := fun _ _ => False }
section
variable {X : Cx} {pins : List (Addr × Obj)} {σ : St} {H : Hp} {s : Shared}
theorem Xu {scope : Scope} {own : List (Str × Nat)} {fp : List Addr} (I : Inv X pins σ H s) (ok : Ac9 X.N X.env.scope scope own) (hN : X.N.Nodup) (hfp : ∀ b ∈ fp, Wv X pins H b ∧ b < s.heap.objs.size) :
  Inv (X.blk s H scope (compEnvC scope (cellsFrom (s.heap.objs.size + 1) scope.names (Ef X.env.cells scope.names [])) s.heap.objs.size X.env) fp) [] (F9 σ (own.map (·.2))) H { s with heap := pushCells (s.heap.push { cls := .type "dict", data := .dict #[] }) scope.names } := by
 have hfree : ∀ y ∈ scope.names, y.2 = .free → ∃ c, X.env.cells.lookup y.1 = some c := fun y hy e => by
  rcases ok.free y hy e with k | k
  ·exact I.ok.has _ (.inl k)
  ·exact I.ok.has _ (.inr k)
 generalize hcenv : compEnvC scope (cellsFrom (s.heap.objs.size + 1) scope.names (Ef X.env.cells scope.names [])) s.heap.objs.size X.env = cenv;have kp : ∀ b o, s.heap.get? b = some o → (pushCells (s.heap.push { cls := .type "dict", data := .dict #[] }) scope.names).get? b = some o := fun b o e => pushCells_keeps _ _ _ _ (Heap.get?_push_of_some _ e);have hL : cenv.locals = s.heap.objs.size := by rw [← hcenv]; rfl
 have hcl : cenv.cells = cellsFrom (s.heap.objs.size + 1) scope.names (Ef X.env.cells scope.names []) := by rw [← hcenv]; rfl
 have hsc : cenv.scope = relS scope X.env.scope := by rw [← hcenv]; rfl
 rw [← Heap.size_push s.heap { cls := .type "dict", data := .dict #[] }] at hcl;have cm : ∀ {y c}, (y, c) ∈ Ef X.env.cells scope.names [] → X.env.cells.lookup y = some c ∧ c < s.heap.objs.size := fun {y c} hm => by
  rcases J0 hm with hm | ⟨h1, rfl⟩
  ·cases hm
  ·obtain ⟨c, hc⟩ := hfree _ h1 rfl;rw [hc];obtain ⟨w, z⟩ := I.cell _ _ hc;exact ⟨rfl, z.lt⟩
 have mem : ∀ {y c}, cenv.cells.lookup y = some c → (X.env.cells.lookup y = some c ∧ c < s.heap.objs.size) ∨ (s.heap.objs.size + 1 ≤ c ∧ Agg (pushCells (s.heap.push { cls := .type "dict", data := .dict #[] }) scope.names) c none) := fun {y c} e => by
  rw [hcl] at e
  rcases Kq (B5 e) with hm | ⟨_, h2, h3⟩
  ·exact .inl (cm hm)
  ·rw [Heap.size_push] at h2; exact .inr ⟨h2, h3⟩
 have look : ∀ {y}, scope.names.lookup y = some .free → ∃ c, cenv.cells.lookup y = some c ∧ X.env.cells.lookup y = some c := fun {y} hl => by
  have hy : (y, NameKind.free) ∈ scope.names := B5 hl;obtain ⟨c', e'⟩ := Oa (Nl (names := scope.names) (n := (s.heap.push { cls := .type "dict", data := .dict #[] }).objs.size) (Lz (cells := X.env.cells) (acc := []) hy));rw [← hcl] at e';refine ⟨c', e', ?_⟩;rw [hcl] at e'
  rcases Kq (B5 e') with hm | ⟨h1, _, _⟩
  ·exact (cm hm).1
  ·have := ok.uniq _ h1;rw [hl] at this; cases this
 have okB : (X.blk s H scope cenv fp).Ok := by
  refine ⟨I.ok.mod, by show cenv.scope.kind = _; rw [hsc]; exact ok.kind, by show cenv.globals = _; rw [← hcenv]; exact I.ok.glob, by show cenv.builtins = _; rw [← hcenv]; exact I.ok.blt, by show s.heap.objs.size ≤ cenv.locals; rw [hL]; exact Ak _,
   fun y z c e1 e2 => ?_, fun y hy => ?_, fun y c z e => ?_, I.ok.hd, I.ok.frames, .inl rfl, fun b hb => ⟨?_, fun y c e z => ?_⟩, I.bs, Bz I.ok.bsz I.sz, fun b o e hb => ?_, fun b hb z => ?_, I.stack, I.stkFree⟩
  ·have e1 : cenv.cells.lookup y = some c := e1;have e2 : cenv.cells.lookup z = some c := e2;rw [hcl] at e1 e2;refine Q8 (fun p hp => ?_) (fun y z c a b => I.ok.inj y z c (cm a).1 (cm b).1) (B5 e1) (B5 e2);rw [Heap.size_push];exact Rg (cm (y := p.1) (c := p.2) hp).2
  ·show ∃ c, cenv.cells.lookup y = some c;have key : ∀ k, cenv.kindOf y = some k → (k = .cell ∨ k = .free) → ∃ c, cenv.cells.lookup y = some c := fun k hk hk' => by
    unfold Env.kindOf at hk;rw [hsc] at hk;obtain ⟨k', e, r⟩ := Lv hk;have : k' = .cell ∨ k' = .free := by
     rcases r with rfl | ⟨rfl, _⟩
     ·exact hk'
     ·exact .inr rfl
    rcases this with rfl | rfl
    ·obtain ⟨c, hm⟩ := Q9 (n := (s.heap.push { cls := .type "dict", data := .dict #[] }).objs.size) (acc := Ef X.env.cells scope.names []) (B5 e);obtain ⟨c', e'⟩ := Oa hm;exact ⟨c', by rw [hcl]; exact e'⟩
    ·obtain ⟨c, h1, _⟩ := look e;exact ⟨c, h1⟩
   rcases hy with hy | hy
   ·exact key _ hy (.inl rfl)
   ·exact key _ hy (.inr rfl)
  ·have z : (scope.names.lookup y == some NameKind.cell) = true := z;have z : scope.names.lookup y = some .cell := by simpa using z
   have e : cenv.cells.lookup y = some c := e;rw [hcl] at e
   rcases Kq (B5 e) with hm | ⟨_, h2, _⟩
   ·rcases J0 hm with hm | ⟨h1, _⟩
    ·cases hm
    ·have q := ok.uniq _ h1;rw [z] at q; cases q
   ·rw [Heap.size_push] at h2;exact Rh h2
  ·show b ≠ cenv.locals;rw [hL]; exact Cj (hfp b hb).2
  ·have e : cenv.cells.lookup y = some c := e
   rcases mem e with ⟨h1, _⟩ | ⟨h1, _⟩
   ·exact (hfp b hb).1.2.2.2.2.1 y c h1 z
   ·have h2 : s.heap.objs.size + 1 ≤ b := by rw [← z]; exact h1
    exact absurd (Bs (hfp b hb).2 (Rh h2)) (Ek _)
  ·rcases (hfp b hb).1.2.2.2.1 with z | z
   ·exact I.ok.noex b o e z
   ·exact absurd (Bs (Heap.lt_size e) (Bz I.ok.bsz z)) (Ek _)
  ·rcases Az.mp (I.stkSub b z) with z | z
   ·exact (hfp b hb).1.2.1 z
   ·exact (hfp b hb).1.2.2.1 z
 refine ⟨okB, rfl, I.bare, Un.kept kp, ⟨fun _ => none, ?_, fun i y av e1 e2 e3 => ?_⟩, fun y c e => ?_, ?_, fun y c e => ?_, fun p hp => ?_, I.hok.kept kp, by rw [Lf]; exact I.len⟩
 ·show Heap.Ns _ cenv.locals _;rw [hL];exact Heap.Ns.keeps (Heap.Ns.new ..) fun b o e => pushCells_keeps _ _ _ _ e
 ·obtain ⟨e2, hne⟩ := Ql e2;have hfr : scope.names.lookup y = some .free ∧ (cenv.kindOf y = some .cell ∨ cenv.kindOf y = some .free) := by
   have key : ∀ k, cenv.scope.names.lookup y = some k → k = .local ∨ k = .cell ∨ k = .free → scope.names.lookup y = some .free ∧ (cenv.kindOf y = some .cell ∨ cenv.kindOf y = some .free) := fun k hk hk' => by
    have hk0 := hk;rw [hsc] at hk;obtain ⟨k', e, r⟩ := Lv hk;have no : ¬ (k' = .local ∨ k' = .cell) := fun hh => by
     rcases ok.own _ (B5 e) hh with e' | e'
     ·obtain ⟨p, hp, hpy⟩ := Ay.mp e';have e3 := ok.ix p hp;have : p.1 = y := hpy;rw [this] at e3;exact hne (Ay.mpr ⟨p, hp, Uu hN e3 e1⟩)
     ·exact e' (As e1)
    rcases r with rfl | ⟨rfl, rfl⟩
    ·rcases hk' with rfl | rfl | rfl
     ·exact absurd (.inl rfl) no
     ·exact absurd (.inr rfl) no
     ·exact ⟨e, .inr hk0⟩
    ·exact ⟨e, .inl hk0⟩
   have e3 : Vis cenv.scope y := e3
   rcases e3 with e3 | e3 | e3
   ·exact key _ e3 (.inl rfl)
   ·exact key _ e3 (.inr (.inl rfl))
   ·exact key _ e3 (.inr (.inr rfl))
  obtain ⟨m, hn, hl⟩ := I.loc;have hvis : Vis X.env.scope y := (ok.free _ (B5 hfr.1) rfl).elim (fun k => .inr (.inl k)) (fun k => .inr (.inr k));obtain ⟨w, r, q⟩ := hl i y av e1 e2 hvis;refine ⟨w, r, .inr ⟨hfr.2, ?_⟩⟩;obtain ⟨c, h1, h2⟩ := look hfr.1
  rcases q with ⟨k, _⟩ | ⟨_, c', e', z⟩
  ·have k : X.env.scope.names.lookup y = some .local := k
   rcases ok.free _ (B5 hfr.1) rfl with k' | k' <;> rw [show X.env.scope.names.lookup y = _ from k'] at k <;> cases k
  ·rw [h2] at e'; cases e';exact ⟨c, h1, z.keeps kp⟩
 ·have e : cenv.cells.lookup y = some c := e
  rcases mem e with ⟨h1, _⟩ | ⟨_, z⟩
  ·obtain ⟨w, z⟩ := I.cell y c h1;exact ⟨w, z.keeps kp⟩
  ·exact ⟨_, z⟩
 ·show H cenv.locals = none;rw [hL]; exact I.hok.fresh (Ak _)
 ·have e : cenv.cells.lookup y = some c := e
  rcases mem e with ⟨h1, _⟩ | ⟨h1, _⟩
  ·exact I.freeC y c h1
  ·exact I.hok.fresh (Rh h1)
 ·exact absurd (show p ∈ ([] : List (Addr × Obj)) ++ [] from hp) (by simp)
theorem Ak4 {E : Value → Shared → Prop} {D : Addr} {xs : List V} {y : V} {v : Value} {Q : Value → Shared → Prop} (I : Inv X pins σ H s) (hD : H D = some (.lst xs)) (hz : xs.length < sizeLine) (r : Df y v)
  (h : ∀ s', Inv X pins σ (upd H D (.lst (xs ++ [y]))) s' → Q .none s') : wpAny (model X.prog X.w) X.A (call (.builtin "list.append") [.ref D, v]) Q E s := by
 obtain ⟨hz', its, n, ri, e⟩ := I.hok D _ hD;have hl := ri.length;refine append_at (hsz := by rw [A4]; omega) e fun h' sb ho' => ?_;refine h { s with heap := h' } (I.write (t' := s.toks) (by rw [hD]; trivial) (.inl rfl) (fun b u hb q => (sb.2 b hb).trans q) ⟨_, ho'⟩ ⟨by rw [A6]; exact hz, its ++ [v], n + 1, ri.append (.cons r .nil), ?_⟩);rw [ho'];simp
def PTs (X : Cx) (ifs : List Expr) (t : TT) : Prop :=
 ∀ (pins : List (Addr × Obj)) (s : Shared) (σ : St) (H : Hp) (Q : Bool → Hp → Prop), Inv X pins σ H s → t σ H Q →
  wpAny (model X.prog X.w) X.A (forIn ifs true fun c r => if r = true then do let ok ← isTrue c X.env (eval c X.env); pure (Vs ok) else pure (Vs r)) (TP X pins σ Q) X.xe s
def Afq : TT := fun _ H Q => Q true H
theorem Qv : PTs X [] Afq := fun _ _ _ H _ I h => wpAny_tests_nil ⟨H, I, h⟩
theorem N4 {c : Expr} {t : TT} (h : PT X c t) : PTs X [c] t := fun pins s σ H Q I hw => wpAny_tests_one (h pins s σ H Q I hw)
end
theorem Afo {α : Type} {t : Sem α} {Q Q' : α → Shared → Prop} {M : Model} {A : Around} {E : Value → Shared → Prop} {s : Shared} (h : wpAny M A t Q (fun _ _ => False) s) (hQ : ∀ a s, Q a s → Q' a s) : wpAny M A t Q' E s := wpAny_mono h hQ fun _ _ z => Dn z
theorem U9 {prog : Program} {w : World} {A : Around} {R : Result → Shared → Prop} {s : Shared} {elt target iter : Expr} {ifs : List Expr} {scope : Scope} {pos : Pos} {it acc : Value} {env : Env} (I : Nat → Shared → Prop)
  (turn : ∀ n s, I n s → wpAny (model prog w) A (pyNext it) (fun r s₁ => match r with
   | none => R (.ok .next) s₁
   | some v => wpAny (model prog w) A (letOwnedTupleGo target it v) (fun _ s₁' => wpAny (model prog w) A (assign target env v) (fun _ s₂ =>
     wpAny (model prog w) A (forIn ifs true fun c r => if r = true then do let ok ← isTrue c env (eval c env); pure (Vs ok) else pure (Vs r)) (fun ok s₃ =>
      if ok = true then wpAny (model prog w) A (eval elt env) (fun x s₄ =>
       wpAny (model prog w) A (call (.builtin "list.append") [acc, x]) (fun _ s₅ => ∃ m, m < n ∧ I m s₅) (notedBy (model prog w) A env fun e s' => R (.error e) s') s₄) (notedBy (model prog w) A env fun e s' => R (.error e) s') s₃
      else ∃ m, m < n ∧ I m s₃) (notedBy (model prog w) A env fun e s' => R (.error e) s') s₂) (notedBy (model prog w) A env fun e s' => R (.error e) s') s₁') (notedBy (model prog w) A env fun e s' => R (.error e) s') s₁) (notedBy (model prog w) A env fun e s' => R (.error e) s') s)
  (n : Nat) (h : I n s) :
  codeAny (model prog w) A (.compLoop (.ListComp elt [⟨target, iter, ifs, 0⟩] scope pos) 0 it acc env) R s := by
 refine codeAny_loop rfl I (fun n s hI => ?_) n h;show wpAny _ A ((compTurn (.ListComp elt [⟨target, iter, ifs, 0⟩] scope pos) 0 it acc env).onRaise (fun x => do noteFrame x env; theTreesLotGoes x)) _ _ s;refine wpAny_noted ?_;rw [compTurn_list];refine wpAny_bind (wpAny_standAt (wpAny_bind (wpAny_mono (turn n s hI) (fun r s₁ h₁ => ?_) fun _ _ h' => h')))
 cases r with
 | none => exact wpAny_pure h₁
 | some v =>
  refine wpAny_bind (wpAny_mono h₁ (fun _ s₁' h₁' => ?_) fun _ _ h' => h');refine wpAny_bind (wpAny_mono h₁' (fun _ s₂ h₂ => wpAny_bind (wpAny_mono h₂ (fun ok s₃ h₃ => ?_) fun _ _ h' => h')) fun _ _ h' => h')
  cases ok with
  | false => exact wpAny_pure ⟨rfl, h₃⟩
  | true =>
   exact wpAny_bind (wpAny_bind (wpAny_mono h₃ (fun x s₄ h₄ => wpAny_bind (wpAny_mono h₄ (fun _ s₅ h₅ => wpAny_pure (wpAny_pure ⟨rfl, h₅⟩)) fun _ _ h' => h')) fun _ _ h' => h'))
section
variable {X : Cx}
def tLc (wi : TI) (g : TG) (tt : TT) (te : TE) (vs : List Nat) : TE := fun σ H Q => wi σ H fun J H1 => ∀ D, H1 D = none → ∃ W : Nat → Nat → Hp → Prop, (∃ m, W 0 m (upd H1 D (.lst []))) ∧ ∀ i m H, W i m H →
 (J.stop i H ∧ Q (.ref D) H) ∨ (J.go i H ∧ ∃ Nx : Hp → Prop, (∀ H', Nx H' → ∃ m', m' < m ∧ W (i + 1) m' H') ∧ ∀ x H', J.yld i H x H' → g x (F9 σ vs) H' fun σ2 H2 => F9 σ2 vs = F9 σ vs ∧ tt σ2 H2 fun b H3 =>
  if b = true then te σ2 H3 fun y H4 => ∃ acc, H4 D = some (.lst acc) ∧ acc.length < sizeLine ∧ Nx (upd H4 D (.lst (acc ++ [y]))) else Nx H3)
theorem Ad2 {pins : List (Addr × Obj)} {s : Shared} {σ : St} {H : Hp} {Q : VK} {elt tg iter : Expr} {ifs : List Expr} {scope : Scope} {own : List (Str × Nat)} {pos pos' : Pos} {wi : TI} {g : TG} {tt : TT} {te : TE} {use : Option (Value → Sem Unit)} {Qf : Value → Shared → Prop}
  (hc : X.calm = true) (hN : X.N.Nodup) (I : Inv X pins σ H s) (hi : PI X tg iter wi) (ok : Ac9 X.N X.env.scope scope own)
  (hg : ∀ (s : Shared) (H : Hp) (C : Addr) (cl : List (Str × Addr)) (fp : List Addr), PG (X.blk s H scope (compEnvC scope cl C X.env) fp) tg g) (ht : ∀ (s : Shared) (H : Hp) (C : Addr) (cl : List (Str × Addr)) (fp : List Addr), PTs (X.blk s H scope (compEnvC scope cl C X.env) fp) ifs tt)
  (he : ∀ (s : Shared) (H : Hp) (C : Addr) (cl : List (Str × Addr)) (fp : List Addr), PE (X.blk s H scope (compEnvC scope cl C X.env) fp) elt te) (hs : ∀ x, foldedSetIterable iter X.env x = pure x)
  (h : tLc wi g tt te (own.map (·.2)) σ H Q)
  (hRR : ∀ D C s' m H', Inv X pins σ H' s' → Q (.ref D) H' → s'.heap.Ns C m → Wv X pins H' C → compPost (model X.prog X.w) X.A X.xe use Qf (.ref D) C (.ok .next) s') :
  wpAny (model X.prog X.w) X.A (comprehension (.ListComp elt [⟨tg, iter, ifs, 0⟩] scope pos) scope X.env pos' (newList []) false (eval iter X.env) use) Qf X.xe s := by
 have hfree : ∀ y ∈ scope.names, y.2 = .free → ∃ c, X.env.cells.lookup y.1 = some c := fun y hy e => by
  rcases ok.free y hy e with k | k
  ·exact I.ok.has _ (.inl k)
  ·exact I.ok.has _ (.inr k)
 refine wpAny_comprehension_free (use := use) rfl hs (Aa6 hfree) ok.kind (fun y hy e => by rw [ok.uniq y hy, e])
  (thn (hi pins s σ H _ I h) fun xv s1 hx => thn hx fun itv s2 h2 => ?_)
 obtain ⟨it, fp, tn, J, H2, e, I2, T, st2, f2, q⟩ := h2;subst e;refine wpAny_newObj_type (Xj ?_) (by show 0 ≤ sizeLine; decide);generalize hD : s2.heap.objs.size = D;have hDn : H2 D = none := I2.hok.fresh (Ot hD);obtain ⟨W, ⟨m0, w0⟩, turn⟩ := q D hDn;generalize hs3 : ({ s2 with heap := s2.heap.push { cls := .type "list", data := .seq ([] : List Value).toArray } } : Shared) = s3;have I3 : Inv X pins σ (upd H2 D (.lst [])) s3 := by
  rw [← hs3];refine I2.laid (t' := s2.toks) (fun b o e => Heap.get?_push_of_some _ e) (Ot hD) ⟨B7 _, [], 0, .nil, ?_⟩;rw [← hD];exact Heap.get?_push_size _ rfl
 have h3 : s3.heap = s2.heap.push { cls := .type "list", data := .seq ([] : List Value).toArray } := by rw [← hs3]
 have sz : ∀ b ∈ fp, b < s2.heap.objs.size := fun b hb => by
  obtain ⟨o, e, _⟩ := T.obj _ _ st2 b hb;exact Heap.lt_size e
 have f3 : ∀ b ∈ fp, Wv X pins (upd H2 D (.lst [])) b ∧ b < s3.heap.objs.size := fun b hb => by
  have hlt := sz b hb;refine ⟨⟨?_, (f2 b hb).2⟩, by rw [h3, Heap.size_push]; exact Rg hlt⟩;rw [Aw (by rw [← hD]; exact Cj hlt)];exact (f2 b hb).1
 have st3 : tn 0 s3.heap := T.keep _ _ _ st2 fun b _ o e => by rw [h3]; exact Heap.get?_push_of_some _ e
 have I4 := Xu I3 ok hN f3;have pg := hg s3 (upd H2 D (.lst [])) s3.heap.objs.size (cellsFrom (s3.heap.objs.size + 1) scope.names (Ef X.env.cells scope.names [])) fp;have pt := ht s3 (upd H2 D (.lst [])) s3.heap.objs.size (cellsFrom (s3.heap.objs.size + 1) scope.names (Ef X.env.cells scope.names [])) fp;have pe := he s3 (upd H2 D (.lst [])) s3.heap.objs.size (cellsFrom (s3.heap.objs.size + 1) scope.names (Ef X.env.cells scope.names [])) fp;show codeAny _ _ (.compStart (.ListComp elt [⟨tg, iter, ifs, 0⟩] scope pos) 0 (.ref it) (.ref D) (compEnvC scope (cellsFrom (s3.heap.objs.size + 1) scope.names (Ef X.env.cells scope.names [])) s3.heap.objs.size X.env)) (compPost (model X.prog X.w) X.A X.xe use Qf (.ref D) s3.heap.objs.size) { s3 with heap := pushCells (s3.heap.push { cls := .type "dict", data := .dict #[] }) scope.names };have nfp : ∀ b ∈ fp, (upd H2 D (.lst [])) b = none := fun b hb => (f3 b hb).1.1;generalize hce : compEnvC scope (cellsFrom (s3.heap.objs.size + 1) scope.names (Ef X.env.cells scope.names [])) s3.heap.objs.size X.env = ce at I4 pg pt pe ⊢;have cL : ce.locals = s3.heap.objs.size := by subst hce; rfl
 generalize hH3 : upd H2 D (.lst []) = H3 at I3 I4 pg pt pe w0 nfp f3;generalize hs4 : ({ s3 with heap := pushCells (s3.heap.push { cls := .type "dict", data := .dict #[] }) scope.names } : Shared) = s4 at I4 ⊢;have st4 : tn 0 s4.heap := T.keep _ _ _ st3 fun b _ o e => by rw [← hs4]; exact pushCells_keeps _ _ _ _ (Heap.get?_push_of_some _ e)
 have stat : ∀ {σ' : St} {H' : Hp} {s' : Shared}, Inv (X.blk s3 H3 scope ce fp) [] σ' H' s' → (∀ b ∈ fp, H' b = none) → ∀ b ∈ fp, Wv (X.blk s3 H3 scope ce fp) [] H' b := fun {σ' H' s'} I' hn b hb =>
  ⟨hn b hb, (I'.ok.exf b hb).1, I'.ok.exfs b hb, .inl hb, fun x c e => (I'.ok.exf b hb).2 x c e, fun p hp => absurd (show p ∈ ([] : List (Addr × Obj)) ++ [] from hp) (by simp)⟩
 have loop : codeAny (model X.prog X.w) X.A (.compLoop (.ListComp elt [⟨tg, iter, ifs, 0⟩] scope pos) 0 (.ref it) (.ref D) ce) (compPost (model X.prog X.w) X.A X.xe use Qf (.ref D) s3.heap.objs.size) s4 := by
  refine U9 (fun n s' => ∃ i H', Inv (X.blk s3 H3 scope ce fp) [] (F9 σ (own.map (·.2))) H' s' ∧ tn i s'.heap ∧ (∀ b ∈ fp, H' b = none) ∧ W i n H') ?_ m0 ⟨0, H3, I4, st4, nfp, w0⟩;rintro n s5 ⟨i, H5, I5, st5, n5, w5⟩
  rcases turn i n H5 w5 with ⟨stop, qq⟩ | ⟨go, Nx, hNx, step⟩
  ·have td := T.done (X.blk s3 H3 scope ce fp) rfl rfl rfl hc i [] s5 _ H5 (fun _ _ => False) I5 (stat I5 n5) st5 stop;refine Afo td fun r s6 ⟨hr, I6⟩ => ?_;subst hr;have I7 : Inv X pins σ H5 s6 := I3.call' (ch := fp) I6.os I6.base I6.hok I6.bare fun b hb => ⟨(f3 b hb).1.2.2.2.1, (f3 b hb).1.2.1, (f3 b hb).1.2.2.2.2.1, (f3 b hb).1.2.2.2.2.2⟩;have nC : H5 s3.heap.objs.size = none := by
    have z : H5 ce.locals = none := I6.free;rw [cL] at z;exact z
   obtain ⟨m, hn, _⟩ := I6.loc;have hn : s6.heap.Ns ce.locals m := hn;rw [cL] at hn;exact hRR D s3.heap.objs.size s6 m H5 I7 qq hn (I3.fpOk (Ak _) nC)
  ·have ti := T.item (X.blk s3 H3 scope ce fp) rfl rfl rfl hc i [] s5 _ H5 (fun _ _ => False) I5 (stat I5 n5) st5 go;refine Afo ti fun r s6 ⟨u, hr, h6⟩ => ?_;subst hr;refine Afo h6 fun _ s7 ⟨x, H7, I7, r7, y7, st7, n7⟩ => ?_;have I7' := I7.pinned (stat I7 n7) (T.obj _ _ st7);refine Afo (pg _ s7 _ H7 x u _ I7' r7 (step x H7 y7)) fun _ s8 ⟨σ8, H8, I8, hw8, q8⟩ => ?_;refine Afo (pt _ s8 σ8 H8 _ I8 q8) fun b s9 ⟨H9, I9, q9⟩ => ?_;have fin : ∀ {s' : Shared} {H' : Hp}, Inv (X.blk s3 H3 scope ce fp) ([] ++ Wa fp s7.heap) σ8 H' s' → Nx H' → ∃ m, m < n ∧ ∃ i H', Inv (X.blk s3 H3 scope ce fp) [] (F9 σ (own.map (·.2))) H' s' ∧ tn i s'.heap ∧ (∀ b ∈ fp, H' b = none) ∧ W i m H' := fun {s' H'} I' nx => by
    obtain ⟨m', hm, w'⟩ := hNx H' nx;have pin' : ∀ b ∈ fp, ∀ o, s7.heap.get? b = some o → s'.heap.get? b = some o ∧ H' b = none := fun b hb o e =>
     let z := I'.pin (b, o) (Cb _ (Cb _ (N8 hb e)))
     ⟨z.1, z.2.1⟩
    have hl : (F9 σ (own.map (·.2))).length = σ8.length := by rw [← hw8, Lf]
    refine ⟨m', hm, i + 1, H', (I'.unpinned (pins := [])).weak hl (fun j v e => ?_), T.keep _ _ _ st7 fun b hb o e => (pin' b hb o e).1, fun b hb => ?_, w'⟩
    ·rw [← hw8] at e;exact (Ql e).1
    ·obtain ⟨o, e, _⟩ := T.obj _ _ st7 b hb;exact (pin' b hb o e).2
   cases b with
   | false =>
    simp only [D0, if_false] at q9 ⊢;exact fin I9 q9
   | true =>
    simp only [if_true] at q9 ⊢;refine Afo (pe _ s9 σ8 H9 _ I9 q9) fun z s10 ⟨yv, H10, I10, r10, acc, hD10, hz10, nx⟩ => ?_;exact Ak4 (X := X.blk s3 H3 scope ce fp) I10 hD10 hz10 r10 fun s11 I11 => fin I11 nx
 exact codeAny_compStart_list loop (T.self X.A 0 _ _ _ st4 loop)
theorem Zc {elt tg iter : Expr} {ifs : List Expr} {scope : Scope} {own : List (Str × Nat)} {pos : Pos} {wi : TI} {g : TG} {tt : TT} {te : TE} (hc : X.calm = true) (hN : X.N.Nodup) (hi : PI X tg iter wi) (ok : Ac9 X.N X.env.scope scope own)
  (hg : ∀ (s : Shared) (H : Hp) (C : Addr) (cl : List (Str × Addr)) (fp : List Addr), PG (X.blk s H scope (compEnvC scope cl C X.env) fp) tg g) (ht : ∀ (s : Shared) (H : Hp) (C : Addr) (cl : List (Str × Addr)) (fp : List Addr), PTs (X.blk s H scope (compEnvC scope cl C X.env) fp) ifs tt)
  (he : ∀ (s : Shared) (H : Hp) (C : Addr) (cl : List (Str × Addr)) (fp : List Addr), PE (X.blk s H scope (compEnvC scope cl C X.env) fp) elt te) (hs : ∀ x, foldedSetIterable iter X.env x = pure x := by intro _; rfl) :
  PE X (.ListComp elt [⟨tg, iter, ifs, 0⟩] scope pos) (tLc wi g tt te (own.map (·.2))) := by
 intro pins s σ H Q I h;rw [eval_ListComp];refine Ad2 hc hN I hi ok hg ht he hs h fun D C s' m H' I' q hn f => ⟨m, hn, fun h'' sb => ?_⟩;obtain ⟨f0, f1, f2, f3, f4, f5⟩ := f;exact ⟨.ref D, H', I'.turned (t' := s'.toks) (fun b o hb e => (sb.2 b hb).trans e) f0 f1 f3 f4 f5, rfl, q⟩
theorem M4 {i : Nat} {y : Str} {py : Pos} {elt tg iter : Expr} {ifs : List Expr} {scope : Scope} {own : List (Str × Nat)} {pos spos : Pos} {wi : TI} {g : TG} {tt : TT} {te : TE} (hc : X.calm = true) (hN : X.N.Nodup) (hy : X.N[i]? = some y) (hyl : X.env.scope.names.lookup y = some .local)
  (hsw : swapsWith (.ListComp elt [⟨tg, iter, ifs, 0⟩] scope pos) (some (.Name y py)) spos.line X.env = pure true) (hi : PI X tg iter wi) (ok : Ac9 X.N X.env.scope scope own)
  (hg : ∀ (s : Shared) (H : Hp) (C : Addr) (cl : List (Str × Addr)) (fp : List Addr), PG (X.blk s H scope (compEnvC scope cl C X.env) fp) tg g) (ht : ∀ (s : Shared) (H : Hp) (C : Addr) (cl : List (Str × Addr)) (fp : List Addr), PTs (X.blk s H scope (compEnvC scope cl C X.env) fp) ifs tt)
  (he : ∀ (s : Shared) (H : Hp) (C : Addr) (cl : List (Str × Addr)) (fp : List Addr), PE (X.blk s H scope (compEnvC scope cl C X.env) fp) elt te) (hs : ∀ x, foldedSetIterable iter X.env x = pure x := by intro _; rfl) :
  PS X (.Assign [.Name y py] (.ListComp elt [⟨tg, iter, ifs, 0⟩] scope pos) spos) (tAsg (tLc wi g tt te (own.map (·.2))) (Jv i)) := by
 intro pins s σ H D I h;rw [exec_Assign_Name_used _ _ _ _ hsw];refine wpAny_bind (wpAny_standAt (wpAny_bind ?_));show wpAny _ X.A (do let _ ← comprehension (.ListComp elt [⟨tg, iter, ifs, 0⟩] scope pos) scope X.env (firstIterPos [⟨tg, iter, ifs, 0⟩] pos) (newList []) false (eval iter X.env) (some (assign (.Name y py) X.env))) _ _ s;have h : tLc wi g tt te (own.map (·.2)) σ H (fun x H1 => Jv i x σ H1 D.nx) := h;refine wpAny_bind (thn (Ad2 (Qf := fun _ s' => SP X pins D .next s') hc hN I hi ok hg ht he hs h fun L C s' m H' I' q hn f => ?_) fun _ s' hq => wpAny_pure (wpAny_pure hq));show wpAny _ _ (assign (.Name y py) X.env (.ref L)) _ _ _;refine wpAny_assign_Name (Vz (v := V.ref L) I' hN hy (.inl hyl) rfl (fun s2 I2 ⟨a, sb, ha⟩ => ?_) (.inr hyl));obtain ⟨f0, f1, f2, f3, f4, f5⟩ := f;have haC : C ≠ a := by
  rcases ha with z | z
  ·rw [z]; exact f1
  ·exact fun e => f4 y a z e.symm
 refine ⟨m, hn.sameBut sb haC, fun h3 sb3 => ?_⟩;exact ⟨_, H', I2.turned (t' := s2.toks) (fun b o hb e => (sb3.2 b hb).trans e) f0 f1 f3 f4 f5, q⟩
end
theorem Q0 {K : Ad} {a : Addr} {xs : List V} {g : TG} {tt : TT} {te : TE} {vs : List Nat} {σ : St} {H1 : Hp} {D : Addr} {Qd : Hp → Prop} (Pv : Nat → Hp → Prop) (h0 : Pv 0 (upd H1 D (.lst []))) (hl : ∀ i H, i ≤ xs.length → Pv i H → SqL K H a xs)
  (hs : ∀ i x H, xs[i]? = some x → Pv i H → g x (F9 σ vs) H fun σ2 H2 => F9 σ2 vs = F9 σ vs ∧ tt σ2 H2 fun b H3 =>
   if b = true then te σ2 H3 fun y H4 => ∃ acc, H4 D = some (.lst acc) ∧ acc.length < sizeLine ∧ Pv (i + 1) (upd H4 D (.lst (acc ++ [y]))) else Pv (i + 1) H3) (hd : ∀ H, Pv xs.length H → Qd H) :
  ∃ W : Nat → Nat → Hp → Prop, (∃ m, W 0 m (upd H1 D (.lst []))) ∧ ∀ i m H, W i m H →
   ((Itl K a).stop i H ∧ Qd H) ∨ ((Itl K a).go i H ∧ ∃ Nx : Hp → Prop, (∀ H', Nx H' → ∃ m', m' < m ∧ W (i + 1) m' H') ∧ ∀ x H', (Itl K a).yld i H x H' → g x (F9 σ vs) H' fun σ2 H2 => F9 σ2 vs = F9 σ vs ∧ tt σ2 H2 fun b H3 =>
    if b = true then te σ2 H3 fun y H4 => ∃ acc, H4 D = some (.lst acc) ∧ acc.length < sizeLine ∧ Nx (upd H4 D (.lst (acc ++ [y]))) else Nx H3) := by
 refine ⟨fun i m H => m = xs.length - i ∧ i ≤ xs.length ∧ Pv i H, ⟨xs.length, by simp, B7 _, h0⟩, ?_⟩;rintro i m H ⟨rfl, hi, p⟩;have q := hl i H hi p
 by_cases hlt : i < xs.length
 ·refine .inr ⟨⟨xs, xs[i], q, by simp [hlt]⟩, Pv (i + 1), fun H' p' => ⟨xs.length - (i + 1), by omega, rfl, hlt, p'⟩, fun x H' y => ?_⟩;obtain ⟨e, y⟩ := y;subst e;exact hs i x _ (y xs q) p
 ·have e : i = xs.length := by omega
  subst e;exact .inl ⟨⟨xs, q, Ak _⟩, hd H p⟩
theorem Ajn {K : Ad} {a : Addr} {xs : List V} {g : TG} {tt : TT} {te : TE} {vs : List Nat} {σ : St} {H1 : Hp} {D : Addr} {Qd : Hp → Prop} (Pv : Nat → Hp → Prop) (h0 : Pv 0 (upd H1 D (.lst []))) (hl : ∀ i H, i ≤ xs.length → Pv i H → SqT K H a xs)
  (hs : ∀ i x H, xs[i]? = some x → Pv i H → g x (F9 σ vs) H fun σ2 H2 => F9 σ2 vs = F9 σ vs ∧ tt σ2 H2 fun b H3 =>
   if b = true then te σ2 H3 fun y H4 => ∃ acc, H4 D = some (.lst acc) ∧ acc.length < sizeLine ∧ Pv (i + 1) (upd H4 D (.lst (acc ++ [y]))) else Pv (i + 1) H3) (hd : ∀ H, Pv xs.length H → Qd H) :
  ∃ W : Nat → Nat → Hp → Prop, (∃ m, W 0 m (upd H1 D (.lst []))) ∧ ∀ i m H, W i m H →
   ((Itt K a).stop i H ∧ Qd H) ∨ ((Itt K a).go i H ∧ ∃ Nx : Hp → Prop, (∀ H', Nx H' → ∃ m', m' < m ∧ W (i + 1) m' H') ∧ ∀ x H', (Itt K a).yld i H x H' → g x (F9 σ vs) H' fun σ2 H2 => F9 σ2 vs = F9 σ vs ∧ tt σ2 H2 fun b H3 =>
    if b = true then te σ2 H3 fun y H4 => ∃ acc, H4 D = some (.lst acc) ∧ acc.length < sizeLine ∧ Nx (upd H4 D (.lst (acc ++ [y]))) else Nx H3) := by
 refine ⟨fun i m H => m = xs.length - i ∧ i ≤ xs.length ∧ Pv i H, ⟨xs.length, by simp, B7 _, h0⟩, ?_⟩;rintro i m H ⟨rfl, hi, p⟩;have q := hl i H hi p
 by_cases hlt : i < xs.length
 ·refine .inr ⟨⟨xs, xs[i], q, by simp [hlt]⟩, Pv (i + 1), fun H' p' => ⟨xs.length - (i + 1), by omega, rfl, hlt, p'⟩, fun x H' y => ?_⟩;obtain ⟨e, y⟩ := y;subst e;exact hs i x _ (y xs q) p
 ·have e : i = xs.length := by omega
  subst e;exact .inl ⟨⟨xs, q, Ak _⟩, hd H p⟩
def blkC (N : List Str) (sc scope : Scope) (own : List (Str × Nat)) : Bool :=
 (match scope.kind with | .function => true | _ => false) && (scope.names.all fun y => decide (scope.names.lookup y.1 = some y.2)) && (own.all fun p => decide (N[p.2]? = some p.1)) &&
  (scope.names.all fun y => match y.2 with
   | .free => (match sc.names.lookup y.1 with | some .cell => true | some .free => true | _ => false)
   | .local => decide (y.1 ∈ own.map (·.1)) || decide (y.1 ∉ N)
   | .cell => decide (y.1 ∈ own.map (·.1)) || decide (y.1 ∉ N)
   | _ => true)
theorem Gb {N : List Str} {sc scope : Scope} {own : List (Str × Nat)} (h : blkC N sc scope own = true) : Ac9 N sc scope own := by
 unfold blkC at h;simp only [Iu, Fl, decide_eq_true_eq] at h;obtain ⟨⟨⟨h1, h2⟩, h3⟩, h4⟩ := h;refine ⟨?_, h2, h3, fun y hy e => ?_, fun y hy e => ?_⟩
 ·split at h1
  ·assumption
  ·cases h1
 ·have q := h4 y hy;simp only [e] at q
  split at q <;> first | exact .inl (by assumption) | exact .inr (by assumption) | cases q
 ·have q := h4 y hy
  rcases e with e | e <;> (simp only [e, Bool.or_eq_true, decide_eq_true_eq] at q; exact q)
end L2
namespace L2
open PySem PySem.Spec PyProof.Rows
section
variable {prog : Program} {w : World} {A : Around} {R : Result → Shared → Prop} {s : Shared} {elt t0 i0 t1 i1 : Expr} {ifs0 ifs1 : List Expr} {scope : Scope} {pos : Pos} {it acc : Value} {env : Env}
end
section
variable {X : Cx}
end
end L2
namespace L2
open PySem PySem.Spec PyProof.Rows
section
variable {κ : Type} [DecidableEq κ]
def Fm (kvs : List (κ × V)) (k : κ) : Option V := (kvs.find? fun kv => decide (kv.1 = k)).map (·.2)
def K9 (kvs : List (κ × V)) (k : κ) (v : V) : List (κ × V) :=
 if (kvs.any fun kv => decide (kv.1 = k)) = true then kvs.map (fun kv => if kv.1 = k then (kv.1, v) else kv) else kvs ++ [(k, v)]
def Gk (kvs : List (κ × V)) (k : κ) : List (κ × V) := kvs.filter fun kv => decide (kv.1 ≠ k)
theorem Ti {k : κ} : Fm ([] : List (κ × V)) k = none := rfl
theorem Ib {p : κ × V} {r : List (κ × V)} {k : κ} (e : p.1 = k) : Fm (p :: r) k = some p.2 := by simp [Fm, List.find?_cons, e]
theorem Ic {p : κ × V} {r : List (κ × V)} {k : κ} (e : ¬ p.1 = k) : Fm (p :: r) k = Fm r k := by simp [Fm, List.find?_cons, e]
theorem O8 (k : κ) : ∀ kvs : List (κ × V), (kvs.any fun kv => decide (kv.1 = k)) = (Fm kvs k).isSome
 | [] => rfl
 | p :: r => by
  rw [Gf]
  by_cases e : p.1 = k
  ·simp only [Ib e, decide_eq_true e, Bool.true_or, Option.isSome_some]
  ·rw [Ic e, decide_eq_false e, Bool.false_or]; exact O8 k r
theorem Lw (kvs : List (κ × V)) (k : κ) (v : V) : (K9 kvs k v).length ≤ kvs.length + 1 := by
 unfold K9
 split
 ·rw [Ac]; omega
 ·rw [A6, A2, Fz]; omega
theorem M0 {kvs : List (κ × V)} {k : κ} (v : V) (h : Fm kvs k = none) : K9 kvs k v = kvs ++ [(k, v)] := by
 unfold K9;rw [O8, h];exact if_neg (by decide)
theorem Nn.isSome_eq {o : Option V} {u : Option Value} (r : Nn o u) : o.isSome = u.isSome := by
 cases o with
 | none => cases u with
  | none => rfl
  | some _ => exact (show False from r).elim
 | some _ => cases u with
  | none => exact (show False from r).elim
  | some _ => rfl
theorem Nn.getD {o : Option V} {u : Option Value} {d : V} {d' : Value} (r : Nn o u) (rd : Df d d') : Df (o.getD d) (u.getD d') := by
 cases o with
 | none => cases u with
  | none => exact rd
  | some _ => exact (show False from r).elim
 | some _ => cases u with
  | none => exact (show False from r).elim
  | some _ => exact r
theorem KV.val {kvs : List (κ × V)} {vs : List (κ × Value)} (r : KV kvs vs) (k : κ) : Nn (Fm kvs k) (valueAt vs k) := by
 unfold KV at r
 induction r with
 | nil => exact G3
 | @cons p q ps qs h t ih =>
  obtain ⟨h1, h2⟩ := h
  by_cases e : p.1 = k
  ·have e' : q.1 = k := h1.symm.trans e;have b : valueAt (q :: qs) k = some q.2 := by simp [valueAt, List.find?_cons, e']
   rw [Ib e, b]; exact h2
  ·have e' : ¬ q.1 = k := fun z => e (h1.trans z);have b : valueAt (q :: qs) k = valueAt qs k := by simp [valueAt, List.find?_cons, e']
   rw [Ic e, b]; exact ih
theorem KV.any {kvs : List (κ × V)} {vs : List (κ × Value)} (r : KV kvs vs) (k : κ) : (kvs.any fun kv => decide (kv.1 = k)) = vs.any fun kv => decide (kv.1 = k) := by
 unfold KV at r
 induction r with
 | nil => rfl
 | cons h t ih => rw [Gf, Gf, ih, h.1]
theorem KV.repl {kvs : List (κ × V)} {vs : List (κ × Value)} (r : KV kvs vs) (k : κ) {y : V} {u : Value} (ry : Df y u) :
  KV (kvs.map fun kv => if kv.1 = k then (kv.1, y) else kv) (vs.map fun kv => if kv.1 = k then (kv.1, u) else kv) := by
 unfold KV at r ⊢
 induction r with
 | nil => exact .nil
 | @cons p q ps qs h t ih =>
  rw [Bc, Bc];refine .cons ?_ ih;obtain ⟨h1, h2⟩ := h
  by_cases e : p.1 = k
  ·rw [if_pos e, if_pos (h1.symm.trans e)]; exact ⟨h1, ry⟩
  ·rw [if_neg e, if_neg (fun z => e (h1.trans z))]; exact ⟨h1, h2⟩
theorem KV.put {kvs : List (κ × V)} {vs : List (κ × Value)} (r : KV kvs vs) (k : κ) {y : V} {u : Value} (ry : Df y u) : KV (K9 kvs k y) (stored vs k u) := by
 unfold K9 stored;rw [r.any k]
 by_cases e : (vs.any fun kv => decide (kv.1 = k)) = true
 ·rw [if_pos e, if_pos e]; exact r.repl k ry
 ·rw [if_neg e, if_neg e]; exact Paired.snoc r ⟨rfl, ry⟩
theorem KV.drop {kvs : List (κ × V)} {vs : List (κ × Value)} (r : KV kvs vs) (k : κ) : KV (Gk kvs k) (without vs k) := by
 unfold KV at r ⊢;unfold Gk without
 induction r with
 | nil => exact .nil
 | @cons p q ps qs h t ih =>
  obtain ⟨h1, h2⟩ := h;rw [Bu, Bu]
  by_cases e : p.1 = k
  ·have a : ¬ decide (p.1 ≠ k) = true := by simp [e]
   have b : ¬ decide (q.1 ≠ k) = true := by simp [h1.symm.trans e]
   rw [if_neg a, if_neg b]; exact ih
  ·have e' : ¬ q.1 = k := fun z => e (h1.trans z);have a : decide (p.1 ≠ k) = true := by simp [e]
   have b : decide (q.1 ≠ k) = true := by simp [e']
   rw [if_pos a, if_pos b]; exact .cons ⟨h1, h2⟩ ih
theorem KV.length {kvs : List (κ × V)} {vs : List (κ × Value)} (r : KV kvs vs) : kvs.length = vs.length := Paired.length r
theorem Af5 (kvs : List (κ × V)) (k : κ) : (Gk kvs k).length ≤ kvs.length := Cc _ _
end
theorem U1 {P : Program} {w : World} {k : Key} {u : Value} (r : Df (kV k) u) : (Eu P w).is k u = true := by
 cases k with
 | inl i => obtain ⟨t, e⟩ := (show ∃ t, u = Value.int i t from r); subst e; exact Xl P w i t
 | inr x => obtain ⟨t, e⟩ := (show ∃ t, u = Value.str x t from r); subst e; exact Xk P w x t
theorem Wg {P : Program} {w : World} : ∀ {ks : List Key} {us : List Value}, Cy (ks.map kV) us → ItemsAre (Eu P w) ks us
 | [], _, r => by rw [Vo] at r; cases r; exact .nil
 | k :: ks, _, r => by
  rw [Bc] at r
  cases r with
  | cons h t => exact .cons (U1 h) (Wg t)
abbrev KT (H : Hp) : List (List Key × V) → List (List Key × Addr × Value) → Prop := Paired fun p q => p.1 = q.1 ∧ H q.2.1 = some (.tup (p.1.map kV)) ∧ Df p.2 q.2.2
theorem KT.val {H : Hp} {kvs : List (List Key × V)} {xs : List (List Key × Addr × Value)} (r : KT H kvs xs) (k : List Key) : Nn (Fm kvs k) ((atKey xs k).map (·.2)) := by
 induction r with
 | nil => exact G3
 | @cons p q ps qs h t ih =>
  obtain ⟨h1, _, h2⟩ := h
  by_cases e : p.1 = k
  ·have e' : q.1 = k := h1.symm.trans e;have b : atKey (q :: qs) k = some q.2 := by simp [atKey, List.find?_cons, e']
   rw [Ib e, b]; exact h2
  ·have e' : ¬ q.1 = k := fun z => e (h1.trans z);have b : atKey (q :: qs) k = atKey qs k := by simp [atKey, List.find?_cons, e']
   rw [Ic e, b]; exact ih
theorem KT.repl {H : Hp} {kvs : List (List Key × V)} {xs : List (List Key × Addr × Value)} (r : KT H kvs xs) (k : List Key) {y : V} {u : Value} (ry : Df y u) :
  KT H (kvs.map fun kv => if kv.1 = k then (kv.1, y) else kv) (xs.map (putAt k u)) := by
 induction r with
 | nil => exact .nil
 | @cons p q ps qs h t ih =>
  rw [Bc, Bc];refine .cons ?_ ih;obtain ⟨h1, h2, h3⟩ := h;unfold putAt
  by_cases e : p.1 = k
  ·rw [if_pos e, if_pos (h1.symm.trans e)]; exact ⟨h1, h2, ry⟩
  ·rw [if_neg e, if_neg (fun z => e (h1.trans z))]; exact ⟨h1, h2, h3⟩
theorem KT.put {H : Hp} {kvs : List (List Key × V)} {xs : List (List Key × Addr × Value)} (r : KT H kvs xs) (k : List Key) {b : Addr} {y : V} {u : Value} (hb : H b = some (.tup (k.map kV))) (ry : Df y u) :
  KT H (K9 kvs k y) (storedH xs k b u) := by
 have e : (kvs.any fun kv => decide (kv.1 = k)) = (atKey xs k).isSome := by
  rw [O8, (r.val k).isSome_eq, Adk]
 unfold K9 storedH;rw [e]
 by_cases q : (atKey xs k).isSome = true
 ·rw [if_pos q, if_pos q]; exact r.repl k ry
 ·rw [if_neg q, if_neg q]; exact Paired.snoc r ⟨rfl, hb, ry⟩
theorem KT.keeps {H H' : Hp} {kvs : List (List Key × V)} {xs : List (List Key × Addr × Value)} (r : KT H kvs xs) (ht : ∀ b ys, H b = some (.tup ys) → H' b = some (.tup ys)) : KT H' kvs xs :=
 Paired.mapP r fun _ _ z => ⟨z.1, ht _ _ z.2.1, z.2.2⟩
section
variable {P : Program} {w : World} {H : Hp} {h : Heap} {a : Addr}
theorem Aiw {u : HO} (ok : HOk P w H h) (e : Rd H a u) : Fw P w H h a u := e.ok ok
theorem U6 {kvs : List (Key × V)} (ok : HOk P w H h) (e : Rd H a (.dK kvs)) : kvs.length ≤ sizeLine ∧ (a == sysModules) = false ∧ ∃ vs, KV kvs vs ∧ h.DictOf (Eu P w) a vs :=
 show Fw P w H h a (.dK kvs) from Aiw ok e
theorem Af6 {kvs : List (Key × V)} (ok : HOk P w H h) (e : H a = some (.dK kvs)) : kvs.length ≤ sizeLine ∧ (a == sysModules) = false ∧ ∃ vs, KV kvs vs ∧ h.DictOf (Eu P w) a vs := U6 ok (.inl e)
theorem S4 {ks : List Key} (ok : HOk P w H h) (e : H a = some (.tup (ks.map kV))) : (tupleKind (Eu P w)).is h ks a := by
 obtain ⟨_, its, r, o, h1, h2, n, h3⟩ := (show Fw P w H h a (.tup (ks.map kV)) from ok a _ e);exact ⟨o, its.toArray, n, h1, h2, h3, by simpa using Wg r⟩
theorem Xr {kvs : List (List Key × V)} (ok : HOk P w H h) (e : Rd H a (.dT kvs)) : kvs.length ≤ sizeLine ∧ (a == sysModules) = false ∧
  ∃ xs, KT H kvs xs ∧ h.DictOfH (tupleKind (Eu P w)) a xs := by
 obtain ⟨z, y, xs, r, o, es, ep, h1, h2, h3, h4, h5⟩ := (show Fw P w H h a (.dT kvs) from Aiw ok e);refine ⟨z, y, xs, r, o, es, ep, h1, h2, h3, h4, fun x hx => ?_, h5⟩;have all : ∀ {l : List (List Key × V)} {m : List (List Key × Addr × Value)}, KT H l m → ∀ x ∈ m, (tupleKind (Eu P w)).is h x.1 x.2.1 := by
  intro l m q
  induction q with
  | nil => intro x hx; exact nomatch hx
  | @cons p q ps qs hq t ih =>
   intro x hx
   rcases Az.mp hx with e | hx
   ·subst e;exact S4 ok (by rw [← hq.1]; exact hq.2.1)
   ·exact ih x hx
 exact all r x hx
theorem Akz {kvs : List (List Key × V)} (ok : HOk P w H h) (e : H a = some (.dT kvs)) : kvs.length ≤ sizeLine ∧ (a == sysModules) = false ∧
  ∃ xs, KT H kvs xs ∧ h.DictOfH (tupleKind (Eu P w)) a xs := Xr ok (.inl e)
end
def La (H : Hp) (a : Addr) (y : V) (r : Option V) : Prop :=
 (∃ kvs k, Rd H a (.dK kvs) ∧ y = kV k ∧ r = Fm kvs k) ∨ ∃ kvs k b, Rd H a (.dT kvs) ∧ y = .ref b ∧ H b = some (.tup (k.map kV)) ∧ r = Fm kvs k
def Aad (H : Hp) (a : Addr) (y v : V) (H' : Hp) : Prop :=
 (∃ kvs k, H a = some (.dK kvs) ∧ y = kV k ∧ kvs.length < sizeLine ∧ H' = upd H a (.dK (K9 kvs k v))) ∨
 ∃ kvs k b, H a = some (.dT kvs) ∧ y = .ref b ∧ H b = some (.tup (k.map kV)) ∧ kvs.length < sizeLine ∧ H' = upd H a (.dT (K9 kvs k v))
theorem La.k {H : Hp} {a : Addr} {kvs : List (Key × V)} {k : Key} (e : H a = some (.dK kvs)) : La H a (kV k) (Fm kvs k) := .inl ⟨kvs, k, .inl e, rfl, rfl⟩
theorem Aad.k {H : Hp} {a : Addr} {kvs : List (Key × V)} {k : Key} {v : V} (e : H a = some (.dK kvs)) (hl : kvs.length < sizeLine) : Aad H a (kV k) v (upd H a (.dK (K9 kvs k v))) := .inl ⟨kvs, k, e, rfl, hl, rfl⟩
section
variable {X : Cx} {pins : List (Addr × Obj)} {σ : St} {H : Hp} {s : Shared} {a : Addr} {y v : V} {u r : Value} {o : Option V} {A : Around} {E : Value → Shared → Prop}
theorem Inv.big (I : Inv X pins σ H s) : sysModules < s.heap.objs.size := by
 have h : mainGlobals < s.heap.objs.size := (I.mod.glob.keeps I.bk).lt;exact Nat.lt_trans (by decide) h
theorem Ac1 {Q : Value → Shared → Prop} (hu : A.units + 1 < cLine) (I : Inv X pins σ H s) (g : La H a y (some v)) (ry : Df y u) (h : ∀ w' s', Inv X pins σ H s' → Df v w' → Q w' s') :
  wpAny (model X.prog X.w) A (getItem (.ref a) u) Q E s := by
 rcases g with ⟨kvs, k, e, ey, l⟩ | ⟨kvs, k, b, e, ey, eb, l⟩
 ·subst ey;obtain ⟨z, hd, vs, rel, dd⟩ := U6 I.hok e;obtain ⟨w', hw, rw'⟩ := Nn.some_of (v := v) (o := valueAt vs k) (by rw [l]; exact rel.val k);exact wpAny_getItem_of (U1 ry) dd.mapOf hw (h w' _ (I.tok _) rw')
 ·subst ey
  cases (show u = Value.ref b from ry)
  obtain ⟨z, hd, xs, rel, dd⟩ := Xr I.hok e;obtain ⟨w', hw, rw'⟩ := Nn.some_of (v := v) (o := (atKey xs k).map (·.2)) (by rw [l]; exact rel.val k);obtain ⟨p, hp, hp2⟩ := Vk.mp hw;refine wpAny_getItem_heap (tupleKind_room_in1 hu) (S4 I.hok eb) dd hp ?_;rw [hp2];exact h w' _ (I.tok _) rw'
theorem d_in {Q : Value → Shared → Prop} (hu : A.units + 1 < cLine) (I : Inv X pins σ H s) (g : La H a y o) (ry : Df y u) (h : ∀ s', Inv X pins σ H s' → Q (.bool o.isSome) s') :
  wpAny (model X.prog X.w) A (compareOp .In u (.ref a)) Q E s := by
 rcases g with ⟨kvs, k, e, ey, l⟩ | ⟨kvs, k, b, e, ey, eb, l⟩
 ·subst ey;obtain ⟨z, hd, vs, rel, dd⟩ := U6 I.hok e;refine wpAny_in_of (U1 ry) hd dd.mapOf ?_;rw [← (rel.val k).isSome_eq, ← l];exact h _ (I.tok _)
 ·subst ey
  cases (show u = Value.ref b from ry)
  obtain ⟨z, hd, xs, rel, dd⟩ := Xr I.hok e;refine wpAny_in_heap (tupleKind_room_in1 hu) (S4 I.hok eb) hd dd ?_;have q := (rel.val k).isSome_eq;rw [Adk] at q;rw [← q, ← l];exact h _ (I.tok _)
theorem Ai0 {Q : Value → Shared → Prop} (hu : A.units + 1 < cLine) (I : Inv X pins σ H s) (g : La H a y o) (ry : Df y u) (h : ∀ s', Inv X pins σ H s' → Q (.bool (!o.isSome)) s') :
  wpAny (model X.prog X.w) A (compareOp .NotIn u (.ref a)) Q E s := by
 rcases g with ⟨kvs, k, e, ey, l⟩ | ⟨kvs, k, b, e, ey, eb, l⟩
 ·subst ey;obtain ⟨z, hd, vs, rel, dd⟩ := U6 I.hok e;refine wpAny_notIn_of (U1 ry) hd dd.mapOf ?_;rw [← (rel.val k).isSome_eq, ← l];exact h _ (I.tok _)
 ·subst ey
  cases (show u = Value.ref b from ry)
  obtain ⟨z, hd, xs, rel, dd⟩ := Xr I.hok e;refine wpAny_notIn_heap (tupleKind_room_in1 hu) (S4 I.hok eb) hd dd ?_;have q := (rel.val k).isSome_eq;rw [Adk] at q;rw [← q, ← l];exact h _ (I.tok _)
theorem U7 {h' : Heap} {t' : Nat} {ob : HO} (I : Inv X pins σ H s) (mu : Mut (H a)) (hs : Heap.SameBut a s.heap h') (he : ∃ q, h'.get? a = some q) (new : Fw X.prog X.w (upd H a ob) h' a ob) :
  Inv X pins σ (upd H a ob) { s with heap := h', toks := t' } :=
 I.write (x := a) (e := a) mu (.inl rfl) (fun b q hb z => (hs.2 b hb).trans z) he new
theorem Ada {P : Program} {w : World} {H' : Hp} {h' : Heap} {kvs : List (Key × V)} {vs : List (Key × Value)} (z : kvs.length ≤ sizeLine) (hd : (a == sysModules) = false) (rel : KV kvs vs) (dd : h'.DictOf (Eu P w) a vs) :
  Fw P w H' h' a (.dK kvs) := ⟨z, hd, vs, rel, dd⟩
theorem Ac0 {H' : Hp} {Q : Unit → Shared → Prop} (hu : A.units + 1 < cLine) (I : Inv X pins σ H s) (g : Aad H a y v H') (ry : Df y u) (rv : Df v r) (h : ∀ s', Inv X pins σ H' s' → Q () s') :
  wpAny (model X.prog X.w) A (setItem (.ref a) u r) Q E s := by
 rcases g with ⟨kvs, k, e, ey, l, eH⟩ | ⟨kvs, k, b, e, ey, eb, l, eH⟩
 ·subst ey eH;obtain ⟨z, hd, vs, rel, dd⟩ := Af6 I.hok e;have hz : vs.length ≤ sizeLine := by rw [← rel.length]; exact z
  have hl : (K9 kvs k v).length ≤ sizeLine := by have := Lw kvs k v; omega
  refine wpAny_setItem_pairs (hsz := hz) (U1 ry) dd fun h' dd' hs => h _ ?_;have he : ∃ q, h'.get? a = some q := let ⟨q, _, _, hq, _⟩ := dd'; ⟨q, hq⟩
  exact U7 I (by rw [e]; exact G3) hs he (Ada hl hd (rel.put k rv) dd')
 ·subst ey eH
  cases (show u = Value.ref b from ry)
  obtain ⟨z, hd, xs, rel, dd⟩ := Akz I.hok e;have hz : xs.length ≤ sizeLine := by rw [← Paired.length rel]; exact z
  have hl : (K9 kvs k v).length ≤ sizeLine := by have := Lw kvs k v; omega
  refine wpAny_setItem_heap (hsz := hz) (tupleKind_room_in1 hu) (S4 I.hok eb) dd fun h' dd' hs => h _ ?_;obtain ⟨q, es, ep, hq, h2, h3, h4, _, h5⟩ := dd';refine U7 I (by rw [e]; exact G3) hs ⟨q, hq⟩ ⟨hl, hd, _, (rel.put k eb rv).keeps fun c ys ec => ?_, q, es, ep, hq, h2, h3, h4, h5⟩;rw [Aw (Ng ec e (fun z => nomatch z))];exact ec
end
section
variable {X : Cx} {pins : List (Addr × Obj)} {σ : St} {H : Hp} {s : Shared} {a : Addr} {kvs : List (Key × V)} {k : Key} {u : Value} {A : Around} {E : Value → Shared → Prop}
theorem Al0 {v : V} {more : List Value} {Q : Value → Shared → Prop} (I : Inv X pins σ H s) (e : H a = some (.dK kvs)) (ry : Df (kV k) u) (l : Fm kvs k = some v) (hm : more = [] ∨ ∃ x, more = [x])
  (h : ∀ w' s', Inv X pins σ (upd H a (.dK (Gk kvs k))) s' → Df v w' → Q w' s') : wpAny (model X.prog X.w) A (call (.builtin "dict.pop") (.ref a :: u :: more)) Q E s := by
 obtain ⟨z, hd, vs, rel, dd⟩ := Af6 I.hok e;obtain ⟨w', hw, rw'⟩ := Nn.some_of (v := v) (o := valueAt vs k) (by rw [← l]; exact rel.val k);have hp : (keyPart u).isSome = true := by
  cases k with
  | inl i => obtain ⟨t, q⟩ := (show ∃ t, u = Value.int i t from ry); subst q; rfl
  | inr x => obtain ⟨t, q⟩ := (show ∃ t, u = Value.str x t from ry); subst q; rfl
 have ha : argsOk "dict.pop" ⟨.ref a :: u :: more, []⟩ := by
  rcases hm with q | ⟨x, q⟩
  ·subst q; exact PySem.F.args_dict_pop_2 _ _
  ·subst q; exact PySem.F.args_dict_pop_3 _ _ _
 refine call_meetsIn PySem.F.slot_dict_pop dd.typeIs PySem.F.entry_dict_pop ha (meets_dict_pop_there (Eu X.prog X.w) a (U1 ry) more hm hp)
  ⟨vs, w', dd, by rw [← rel.length]; exact z, hw, fun h' dd' hs => h w' _ ?_ rw'⟩
 have he : ∃ q, h'.get? a = some q := let ⟨q, _, _, hq, _⟩ := dd'; ⟨q, hq⟩
 exact U7 I (by rw [e]; exact G3) hs he (Ada (Bz (Af5 kvs k) z) hd (rel.drop k) dd')
theorem Al1 {Q : Value → Shared → Prop} (I : Inv X pins σ H s) (e : Rd H a (.dK kvs)) (h : ∀ t s', Inv X pins σ H s' → Q (.int kvs.length t) s') : wpAny (model X.prog X.w) A (call (.builtin "len") [.ref a]) Q E s := by
 obtain ⟨z, hd, vs, rel, dd⟩ := U6 I.hok e;refine call_len_dict hd dd (by rw [← rel.length]; rw [sizeLine_eq] at z; omega) ?_;rw [← rel.length];exact h _ _ (I.tok _)
end
def NoSl (i : Expr) : Prop := ∀ ov iv, subscripted i false ov iv = operate [ov, iv] (getItem ov iv)
theorem Agp {prog : Program} {w : World} {A : Around} {E : Value → Shared → Prop} {s : Shared} {env : Env} {value slice : Expr} {pos : Pos} {T id : String} {Q : Value → Shared → Prop}
  (hl : typeLookup (.type T) "__getitem__" = pure (some (.builtin id))) (hs : NoSl slice)
  (h : wpAny (model prog w) A (eval value env) (fun o s₁ => wpAny (model prog w) A (eval slice env) (fun i s₂ => s₂.TypeIs o T ∧ wpAny (model prog w) A (getItem o i) Q E s₂) E s₁) E s) :
  wpAny (model prog w) A (eval (.Subscript value slice pos) env) Q E s := by
 refine Subscript_ (wpAny_mono h (fun o s₁ h₁ => wpAny_mono h₁ (fun i s₂ h₂ => ?_) fun _ _ x => x) fun _ _ x => x);obtain ⟨hT, h₂⟩ := h₂;unfold subscriptTail;refine wpAny_bind ?_;rw [getitemInPython_of_ne hT.not_modules];refine wpAny_bind (wpAny_specialOf hT hl ?_);have fin : wpAny (model prog w) A (subscripted slice false o i) (fun r s₃ => wpAny (model prog w) A (letTemporaryGo value o r >>= fun _ => pure r) Q E s₃) E s₂ := by
  rw [hs o i];exact wpAny_operating (wpAny_mono h₂ (fun r s₃ h₃ => wpAny_bind (wpAny_letTemporaryGo (wpAny_pure h₃))) fun _ _ x => x)
 first
  | exact wpAny_pure (wpAny_bind fin)
  | exact wpAny_bind (wpAny_pure (wpAny_bind fin))
  | exact wpAny_bind fin
theorem Xs {X : Cx} {pins : List (Addr × Obj)} {σ : St} {H : Hp} {s : Shared} {a : Addr} {y : V} {o : Option V} (I : Inv X pins σ H s) (g : La H a y o) : s.TypeIs (.ref a) "dict" := by
 rcases g with ⟨kvs, k, e, _, _⟩ | ⟨kvs, k, b, e, _, _, _⟩
 ·obtain ⟨_, _, vs, _, dd⟩ := U6 I.hok e;exact dd.typeIs
 ·obtain ⟨_, _, xs, _, dd⟩ := Xr I.hok e;exact dd.typeIs
def Akj (td ty : TE) : TE := fun σ H Q => td σ H fun x H1 => ty σ H1 fun y H2 => ∃ a v, x = .ref a ∧ La H2 a y (some v) ∧ Q v H2
def tDIn (ty td : TE) : TE := fun σ H Q => ty σ H fun y H1 => td σ H1 fun x H2 => ∃ a o, x = .ref a ∧ La H2 a y o ∧ Q (.bl o.isSome) H2
def Ago (ty td : TE) : TE := fun σ H Q => ty σ H fun y H1 => td σ H1 fun x H2 => ∃ a o, x = .ref a ∧ La H2 a y o ∧ Q (.bl (!o.isSome)) H2
def Akl (td ty tv : TE) : TS := fun D σ H => tv σ H fun v H1 => td σ H1 fun x H2 => ty σ H2 fun y H3 => ∃ a H4, x = .ref a ∧ Aad H3 a y v H4 ∧ D.nx σ H4
section
variable {X : Cx} {o i e value : Expr} {pos pos' tpos : Pos} {td ty tv : TE}
theorem Yg (hu : X.A.units + 1 < cLine) (ho : PE X o td) (hi : PE X i ty) (hs : NoSl i) : PE X (.Subscript o i pos) (Akj td ty) := by
 intro pins s σ H Q I h;refine Agp PySem.F.slot_dict_getitem.lookup hs (thn (ho pins s σ H _ I h) fun u s1 ⟨x, H1, I1, rx, q1⟩ => thn (hi pins s1 σ H1 _ I1 q1) fun iv s2 ⟨y, H2, I2, ry, a, v, ex, g, q2⟩ => ?_);subst ex;obtain rfl : u = Value.ref a := rx;exact ⟨Xs I2 g, Ac1 hu I2 g ry fun w' s3 I3 rw' => ⟨v, H2, I3, rw', q2⟩⟩
theorem Ag6 (hu : X.A.units + 1 < cLine) (hi : PE X i ty) (ho : PE X o td) : PC X .In i o (tDIn ty td) := by
 intro pins s σ H Q I h;refine thn (hi pins s σ H _ I h) fun iv s1 ⟨y, H1, I1, ry, q1⟩ => thn (ho pins s1 σ H1 _ I1 q1) fun u s2 ⟨x, H2, I2, rx, a, ov, ex, g, q2⟩ => ?_;subst ex;obtain rfl : u = Value.ref a := rx;exact d_in hu I2 g ry fun s3 I3 => ⟨.bl ov.isSome, H2, I3, rfl, q2⟩
theorem Wb (hu : X.A.units + 1 < cLine) (hi : PE X i ty) (ho : PE X o td) : PC X .NotIn i o (Ago ty td) := by
 intro pins s σ H Q I h;refine thn (hi pins s σ H _ I h) fun iv s1 ⟨y, H1, I1, ry, q1⟩ => thn (ho pins s1 σ H1 _ I1 q1) fun u s2 ⟨x, H2, I2, rx, a, ov, ex, g, q2⟩ => ?_;subst ex;obtain rfl : u = Value.ref a := rx;exact Ai0 hu I2 g ry fun s3 I3 => ⟨.bl (!ov.isSome), H2, I3, rfl, q2⟩
theorem Qw (hu : X.A.units + 1 < cLine) (ho : PE X o td) (hi : PE X i ty) (hv : PE X value tv) (hs : swapsWith value (some (.Subscript o i pos')) pos.line X.env = pure false) :
  PS X (.Assign [.Subscript o i pos'] value pos) (Akl td ty tv) := by
 intro pins s σ H D I h;refine wpAny_Assign_Subscript (thn (hv pins s σ H _ I h) fun r s1 ⟨v, H1, I1, rv, q1⟩ => thn (ho pins s1 σ H1 _ I1 q1) fun u s2 ⟨x, H2, I2, rx, q2⟩ => thn (hi pins s2 σ H2 _ I2 q2) fun iv s3 ⟨y, H3, I3, ry, a, H4, ex, g, q3⟩ => ?_) hs;subst ex;obtain rfl : u = Value.ref a := rx;exact Ac0 hu I3 g ry rv fun s4 I4 => ⟨σ, H4, I4, q3⟩
end
theorem Af7 {P : Program} {w : World} {H : Hp} (h : Heap) (hb : sysModules < h.objs.size) : Fw P w H (h.push { cls := .type "dict", data := .dict #[] }) h.objs.size (.dK []) :=
 ⟨B7 _, beq_eq_false_iff_ne.mpr (Rf (Cj hb)), [], .nil, Heap.DictOf.new h⟩
def Ain : TE := fun _ H Q => ∀ p, H p = none → Q (.ref p) (upd H p (.dK []))
section
variable {X : Cx} {pos : Pos}
theorem Js : PE X (.Dict [] [] pos) Ain := fun pins s σ H Q I h =>
 wpAny_Dict_empty ⟨.ref s.heap.objs.size, _, I.laid (a := s.heap.objs.size) (o := .dK []) (t' := s.toks) (fun _ _ q => Heap.get?_push_of_some _ q) (Ak _) (Af7 s.heap I.big), rfl, h _ (I.hok.fresh (Ak _))⟩
end
structure M1 (X : Cx) (o : Expr) (m : Str) (apos : Pos) (e : Expr) (cpos : Pos) : Prop where
 base : attributeBase o m X.env (eval o X.env) = eval o X.env
 few : ((backTo cpos (starEach [e] X.env)).all (fun x => !x.1) && (backToKw cpos (keywordEach [] X.env)).all (fun x => x.1.isSome)
  && decide (([e] : List Expr).length + ([] : List Keyword).length + (if ([] : List Keyword).isEmpty then 0 else 1) < 30)) = true
 line : (apos.endLine == cpos.line) = true
 trees : backTo cpos (starEach [e] X.env) = [(false, eval e X.env)]
structure M2 (X : Cx) (o : Expr) (m : Str) (apos : Pos) (e f : Expr) (cpos : Pos) : Prop where
 base : attributeBase o m X.env (eval o X.env) = eval o X.env
 few : ((backTo cpos (starEach [e, f] X.env)).all (fun x => !x.1) && (backToKw cpos (keywordEach [] X.env)).all (fun x => x.1.isSome)
  && decide (([e, f] : List Expr).length + ([] : List Keyword).length + (if ([] : List Keyword).isEmpty then 0 else 1) < 30)) = true
 line : (apos.endLine == cpos.line) = true
 trees : backTo cpos (starEach [e, f] X.env) = [(false, eval e X.env), (false, eval f X.env)]
def IsD (H : Hp) (a : Addr) : Prop := (∃ kvs, Rd H a (.dK kvs)) ∨ ∃ kvs, Rd H a (.dT kvs)
theorem Ad4 {X : Cx} {pins : List (Addr × Obj)} {σ : St} {H : Hp} {s : Shared} {a : Addr} (I : Inv X pins σ H s) (d : IsD H a) :
  s.TypeIs (.ref a) "dict" ∧ (∀ b, Value.ref a = .ref b → ∃ ob, s.heap.get? b = some ob ∧ ob.dict = none) ∧ (a == sysModules) = false := by
 rcases d with ⟨kvs, e⟩ | ⟨kvs, e⟩
 ·obtain ⟨_, hd, vs, _, dd⟩ := U6 I.hok e;refine ⟨dd.typeIs, fun b q => ?_, hd⟩
  cases q
  obtain ⟨ob, _, _, h1, h2, _⟩ := dd;exact ⟨ob, h1, h2.2.1⟩
 ·obtain ⟨_, hd, xs, _, dd⟩ := Xr I.hok e;refine ⟨dd.typeIs, fun b q => ?_, hd⟩
  cases q
  obtain ⟨ob, _, _, h1, h2, _⟩ := dd;exact ⟨ob, h1, h2.2.1⟩
section
variable {X : Cx} {pins : List (Addr × Obj)} {σ : St} {H : Hp} {s : Shared} {a : Addr} {y d : V} {u r : Value} {o : Option V} {A : Around} {E : Value → Shared → Prop}
theorem Ak0 {Q : Value → Shared → Prop} (hu : A.units + 1 < cLine) (I : Inv X pins σ H s) (g : La H a y o) (ry : Df y u) (rd : Df d r) (h : ∀ w' s', Inv X pins σ H s' → Df (o.getD d) w' → Q w' s') :
  wpAny (model X.prog X.w) A (call (.builtin "dict.get") [.ref a, u, r]) Q E s := by
 rcases g with ⟨kvs, k, e, ey, l⟩ | ⟨kvs, k, b, e, ey, eb, l⟩
 ·subst ey;obtain ⟨z, hd, vs, rel, dd⟩ := U6 I.hok e;refine call_meetsIn Ww dd.typeIs PySem.F.entry_dict_get (PySem.F.args_dict_get_3 _ _ _) (meets_dict_get_default (Eu X.prog X.w) a (U1 ry) hd r) ⟨_, dd.mapOf, h _ _ (I.tok _) ?_⟩;rw [l];exact (rel.val k).getD rd
 ·subst ey
  cases (show u = Value.ref b from ry)
  obtain ⟨z, hd, xs, rel, dd⟩ := Xr I.hok e;refine call_meetsIn Ww dd.typeIs PySem.F.entry_dict_get (PySem.F.args_dict_get_3 _ _ _) (meetsH_dict_get_default (tupleKind (Eu X.prog X.w)) a b hd r) ⟨tupleKind_room_in1 hu, k, xs, S4 I.hok eb, dd, h _ _ (I.tok _) ?_⟩;rw [l];exact (rel.val k).getD rd
end
def Aio (td ty tx : TE) : TE := fun σ H Q => td σ H fun x H1 => ∃ a, x = .ref a ∧ IsD H1 a ∧ ty σ H1 fun y H2 => tx σ H2 fun z H3 => ∃ o, La H3 a y o ∧ Q (o.getD z) H3
def Afs (td ty : TE) : TE := fun σ H Q => td σ H fun x H1 => ∃ a, x = .ref a ∧ IsD H1 a ∧ ty σ H1 fun y H2 => ∃ kvs k v, H2 a = some (.dK kvs) ∧ y = kV k ∧ Fm kvs k = some v ∧ Q v (upd H2 a (.dK (Gk kvs k)))
section
variable {X : Cx} {o e f : Expr} {apos cpos : Pos} {td ty tx : TE}
theorem Zd (hu : X.A.units + 1 < cLine) (ho : PE X o td) (he : PE X e ty) (hf : PE X f tx) (m : M2 X o "get" apos e f cpos) : PE X (.Call (.Attribute o "get" apos) [e, f] [] cpos) (Aio td ty tx) := by
 intro pins s σ H Q I h;refine wpAny_Call_method m.base m.few m.line Te Ww PySem.F.type_dict_get (thn (ho pins s σ H _ I h) fun u s1 ⟨x, H1, I1, rx, a, ex, d, q1⟩ => ?_);subst ex;obtain rfl : u = Value.ref a := rx;obtain ⟨t1, t2, _⟩ := Ad4 I1 d;refine ⟨t1, t2, ?_⟩;rw [m.trees];refine Calls.callWith_builtin rfl (Calls.evalArgs_plain (Calls.spliced_cons (thn (he pins s1 σ H1 _ I1 q1) fun iv s2 ⟨y, H2, I2, ry, q2⟩ =>
  Calls.spliced_cons (thn (hf pins s2 σ H2 _ I2 q2) fun fv s3 ⟨z, H3, I3, rz, ov, g, q3⟩ => Calls.spliced_nil ?_))))
 exact Ak0 hu I3 g ry rz fun w' s4 I4 rw' => ⟨_, H3, I4, rw', q3⟩
theorem Uj (ho : PE X o td) (he : PE X e ty) (m : M1 X o "pop" apos e cpos) : PE X (.Call (.Attribute o "pop" apos) [e] [] cpos) (Afs td ty) := by
 intro pins s σ H Q I h;refine wpAny_Call_method m.base m.few m.line Te PySem.F.slot_dict_pop PySem.F.type_dict_pop (thn (ho pins s σ H _ I h) fun u s1 ⟨x, H1, I1, rx, a, ex, d, q1⟩ => ?_);subst ex;obtain rfl : u = Value.ref a := rx;obtain ⟨t1, t2, _⟩ := Ad4 I1 d;refine ⟨t1, t2, ?_⟩;rw [m.trees];refine Calls.callWith_builtin rfl (Calls.evalArgs_plain (Calls.spliced_cons (thn (he pins s1 σ H1 _ I1 q1) fun iv s2 ⟨y, H2, I2, ry, kvs, k, v, ea, ey, l, q2⟩ => Calls.spliced_nil ?_)));subst ey;exact Al0 I2 ea ry l (.inl rfl) fun w' s3 I3 rw' => ⟨v, _, I3, rw', q2⟩
end
section
variable {X : Cx} {pins : List (Addr × Obj)} {σ : St} {H : Hp} {s : Shared} {a : Addr} {kvs : List (Key × V)} {A : Around} {E : Value → Shared → Prop}
end
section
variable {X : Cx} {pins : List (Addr × Obj)} {σ : St} {H : Hp} {s : Shared} {a : Addr} {y : V} {u : Value} {A : Around} {E : Value → Shared → Prop}
end
end L2
namespace L2
open PySem PySem.Spec PyProof.Rows
section
variable {prog : Program} {w : World} {A : Around} {E : Value → Shared → Prop}
end
section
variable {X : Cx}
end
end L2
namespace L2
open PySem PySem.Spec PyProof.Rows
section
variable {X : Cx} {pins : List (Addr × Obj)} {σ : St} {H : Hp} {s : Shared} {h' : Heap}
theorem Inv.turnedL {t' : Nat} {ch : List Addr} (I : Inv X pins σ H s) (k : ∀ b o, b ∉ ch → s.heap.get? b = some o → h'.get? b = some o) (hf : ∀ b ∈ ch, Wv X pins H b) : Inv X pins σ H { s with heap := h', toks := t' } := by
 have nit : ∀ b u, H b = some u → b ∉ ch := fun b u e z => by
  have q := (hf b z).1;rw [q] at e; cases e
 refine I.step (g' := s.gens) (d' := s.drawn) (ch := ch) (fun b hb => ⟨(hf b hb).2.2.2.1, (hf b hb).2.1, (hf b hb).2.2.2.2.1, (hf b hb).2.2.2.2.2⟩) (fun b o _ _ hc e _ => k b o hc e) (fun b o _ _ hc e _ => ⟨o.slots, k b o hc e⟩)
  (fun _ _ _ _ n => n) (fun b o hc e => ⟨o, k b o hc e⟩) (fun _ _ e => e) (fun _ _ _ e => e) (fun b ps e => ⟨#[], by rw [e]; simp⟩) (fun m hm => ?_) (fun b u e => ?_) I.bare
 ·obtain ⟨o, es, ep, ho, r⟩ := hm;exact ⟨o, es, ep, k _ o (fun z => (hf _ z).2.1 rfl) ho, r⟩
 ·refine (I.hok b u e).stay (fun c v hc q => k c v ?_ q) (fun _ q => q) fun _ _ q => q
  rcases hc with z | z
  ·rw [z]; exact nit b u e
  ·exact nit c _ z
theorem Inv.turnedNew {t' : Nat} {ch : List Addr} {T : Addr} {ob : HO} (I : Inv X pins σ H s) (k : ∀ b o, b ∉ ch → s.heap.get? b = some o → h'.get? b = some o) (hf : ∀ b ∈ ch, Wv X pins H b) (hT : s.heap.objs.size ≤ T)
  (new : Fw X.prog X.w (upd H T ob) h' T ob) : Inv X pins σ (upd H T ob) { s with heap := h', toks := t' } := by
 have hn : H T = none := I.hok.fresh hT;have nit : ∀ b u, H b = some u → b ∉ ch := fun b u e z => by
  have q := (hf b z).1;rw [q] at e; cases e
 refine I.step (g' := s.gens) (d' := s.drawn) (ch := ch) (fun b hb => ⟨(hf b hb).2.2.2.1, (hf b hb).2.1, (hf b hb).2.2.2.2.1, (hf b hb).2.2.2.2.2⟩) (fun b o _ _ hc e _ => k b o hc e) (fun b o _ _ hc e _ => ⟨o.slots, k b o hc e⟩)
  (fun b o _ e n => ?_) (fun b o hc e => ⟨o, k b o hc e⟩) (fun b xs e => ?_) (fun b o u e => ?_) (fun b ps e => ⟨#[], ?_⟩) (fun m hm => ?_) (fun b u e => ?_) I.bare
 ·rw [Aw (Cj (Bs (Heap.lt_size e) hT))]; exact n
 ·rw [Aw (Av e hn)]; exact e
 ·rw [Aw (Av e hn)]; exact e
 ·rw [Aw (Av e hn), e]; simp
 ·obtain ⟨o, es, ep, ho, r⟩ := hm;exact ⟨o, es, ep, k _ o (fun z => (hf _ z).2.1 rfl) ho, r⟩
 ·by_cases hb : b = T
  ·subst hb;rw [Ao] at e
   cases e
   exact new
  ·rw [Aw hb] at e;refine (I.hok b u e).stay (fun c v hc q => k c v ?_ q) (fun c q => by rw [Aw (Av q hn)]; exact q) fun c xs q => by rw [Aw (Av q hn)]; exact q
   rcases hc with z | z
   ·rw [z]; exact nit b u e
   ·exact nit c _ z
theorem Inv.lock {d : Addr} {u : HO} (I : Inv X pins σ H s) (h : H d = some u) (mu : Mut (some u)) : ∃ od, Inv X pins σ (upd H d (.frz od u)) s := by
 have x := I.hok d u h;have ex : ∃ od, s.heap.get? d = some od := by
  cases u with
  | lst xs => obtain ⟨_, _, _, _, e⟩ := x; exact ⟨_, e⟩
  | dK kvs => obtain ⟨_, _, _, _, o, _, _, e, _⟩ := x; exact ⟨o, e⟩
  | dT kvs => obtain ⟨_, _, _, _, o, _, _, e, _⟩ := x; exact ⟨o, e⟩
  | set S n => obtain ⟨o, _, _, _, e, _⟩ := x; exact ⟨o, e⟩
  | ins C dx fs => obtain ⟨_, _, _, e, _⟩ := x; exact ⟨_, e⟩
  | ext φ => obtain ⟨_, ⟨_, e⟩, _⟩ := x; exact ⟨_, e⟩
  | _ => exact Dn mu
 obtain ⟨od, e⟩ := ex;have new : Fw X.prog X.w (upd H d (.frz od u)) s.heap d (.frz od u) := by
  refine ⟨e, x.stay (fun b v _ q => q) (fun b q => ?_) fun b xs q => ?_⟩
  ·rw [Aw (fun z => by rw [z, h] at q; cases q; exact mu)]; exact q
  ·rw [Aw (fun z => by rw [z, h] at q; cases q; exact mu)]; exact q
 exact ⟨od, I.write (x := d) (e := d) (t' := s.toks) (h' := s.heap) (by rw [h]; exact mu) (.inl rfl) (fun b v _ q => q) ⟨od, e⟩ new⟩
theorem Inv.nofrz {d : Addr} {u : HO} (I : Inv X pins σ H s) (h : H d = some u) (mu : Mut (some u)) : ∀ o' u', X.H_0 d ≠ some (.frz o' u') := fun o' u' e => by
 have q := I.base.frzs d o' u' e;rw [h] at q
 cases q
 exact mu
theorem Inv.unlock {d : Addr} {od : Obj} {u : HO} (I : Inv X pins σ H s) (h : H d = some (.frz od u)) (hn : ∀ o' u', X.H_0 d ≠ some (.frz o' u')) : Inv X pins σ (upd H d u) s := by
 have neH : ∀ b o, H b = some o → (∀ o' u', o ≠ .frz o' u') → b ≠ d := fun b o e hne z => by
  rw [z, h] at e
  cases e
  exact hne _ _ rfl
 have neN : ∀ b, H b = none → b ≠ d := fun b e z => by rw [z, h] at e; cases e
 refine ⟨I.ok, I.os, I.bare, ⟨I.base.keep, I.base.slot, fun b o e n hx => ?_, I.base.there, fun b xs e => ?_, fun b o x e => ?_, fun b ps e => ?_⟩, I.loc, I.cell, ?_, fun x c e => ?_, fun p hp => ?_, fun b o e => ?_, I.len⟩
 ·rw [Aw (neN b (I.base.free b o e n hx))]; exact I.base.free b o e n hx
 ·have q := I.base.tups b xs e;rw [Aw (neH b _ q (fun _ _ z => nomatch z))]; exact q
 ·have q := I.base.frzs b o x e;rw [Aw (fun z => by rw [z] at e; exact hn _ _ e)]; exact q
 ·obtain ⟨m, q⟩ := I.base.tbls b ps e;exact ⟨m, by rw [Aw (neH b _ q (fun _ _ z => nomatch z))]; exact q⟩
 ·rw [Aw (neN _ I.free)]; exact I.free
 ·rw [Aw (neN c (I.freeC x c e))]; exact I.freeC x c e
 ·obtain ⟨e, n, r⟩ := I.pin p hp;exact ⟨e, by rw [Aw (neN _ n)]; exact n, r⟩
 ·by_cases hb : b = d
  ·rw [hb, Ao] at e
   cases e
   rw [hb];obtain ⟨_, x⟩ := I.hok d _ h;exact x.stay (fun c v _ q => q) (fun c q => by rw [Aw (neH c _ q (fun _ _ z => nomatch z))]; exact q) fun c xs q => by rw [Aw (neH c _ q (fun _ _ z => nomatch z))]; exact q
  ·rw [Aw hb] at e;exact (I.hok b o e).stay (fun c v _ q => q) (fun c q => by rw [Aw (neH c _ q (fun _ _ z => nomatch z))]; exact q) fun c xs q => by rw [Aw (neH c _ q (fun _ _ z => nomatch z))]; exact q
end
def Aki (t : TS) : TS := fun D σ H => ∃ d u, H d = some u ∧ Mut (some u) ∧ ∀ od, t ⟨fun σ' H' => H' d = some (.frz od u) ∧ D.nx σ' (upd H' d u), fun v H' => H' d = some (.frz od u) ∧ D.rt v (upd H' d u), fun σ' H' => H' d = some (.frz od u) ∧ D.bk σ' (upd H' d u), fun σ' H' => H' d = some (.frz od u) ∧ D.ct σ' (upd H' d u)⟩ σ (upd H d (.frz od u))
section
variable {X : Cx}
theorem Yf {st : Stmt} {t : TS} (h : PS X st t) : PS X st (Aki t) := by
 intro pins s σ H D I hw;obtain ⟨d, u, hd, mu, hw⟩ := hw;obtain ⟨od, I1⟩ := I.lock hd mu;refine thn (h pins s σ _ _ I1 (hw od)) fun f s1 q => ?_
 cases f with
 | next => obtain ⟨σ', H', I2, e, q⟩ := q; exact ⟨σ', _, I2.unlock e (I.nofrz hd mu), q⟩
 | brk => obtain ⟨σ', H', I2, e, q⟩ := q; exact ⟨σ', _, I2.unlock e (I.nofrz hd mu), q⟩
 | cont => obtain ⟨σ', H', I2, e, q⟩ := q; exact ⟨σ', _, I2.unlock e (I.nofrz hd mu), q⟩
 | ret v => obtain ⟨x, σ', H', I2, r, e, q⟩ := q; exact ⟨x, σ', _, I2.unlock e (I.nofrz hd mu), r, q⟩
theorem Ag1 {tg : Expr} {pins : List (Addr × Obj)} {σ : St} {H : Hp} {s : Shared} {R : It → Hp → Prop} {J : It} {tn : Nat → Heap → Prop} {tk : Nat} (I : Inv X pins σ H s) (o : Obj)
  (T : Afe X.prog X.w X.K tg J [s.heap.objs.size] s.heap.objs.size tn) (st : tn 0 (s.heap.push o)) (q : R J H) : PIE X pins σ tg R (.ref s.heap.objs.size) { s with heap := s.heap.push o, toks := tk } := by
 refine ⟨s.heap.objs.size, [s.heap.objs.size], tn, J, H, rfl, I.kept fun b ob e => Heap.get?_push_of_some _ e, T, st, fun b hb => ?_, q⟩;have e : b = s.heap.objs.size := by simpa using hb
 subst e;exact I.fpOk (Ak _) (I.hok.fresh (Ak _))
end
section
variable {X : Cx} {tg : Expr}
end
section
variable {prog : Program} {w : World} {A : Around} {E : Value → Shared → Prop} {s : Shared}
theorem Wf {d : Addr} {o : Obj} {es : Array DictEntry} {ep : Nat} {Q : Value → Shared → Prop} (hd : (d == sysModules) = false) (ho : s.heap.get? d = some o) (hc : o.ExactDict) (hdat : o.data = .dict es ep)
  (hQ : Q (.ref s.heap.objs.size) { s with heap := s.heap.push { cls := .type "dict_keyiterator", data := .fields #[.ref d, .int 0 0, .int es.size 0, .int ep 0] } }) :
  wpAny (model prog w) A (pyIter (.ref d)) Q E s := by
 have hT : s.TypeIs (.ref d) "dict" := ⟨o, ho, hc.1⟩;refine wpAny_pyIter_slot hT F.slot_dict_iter (wpAny_call_entry F.slot_dict_iter hT F.entry_dict_iter ?_ (F.args_dict_iter_1 _));unfold Builtin.«dict.__iter__»;refine wpAny_bind ?_;unfold Builtin.Dict.dictSlotNone;refine wpAny_bind (wpAny_notOrdered_dict hT ?_);show wpAny _ _ (pure (Value.ref d)) _ _ s;refine wpAny_pure ?_;show wpAny _ _ (Builtin.Dict.showsAll d >>= _) _ _ s;unfold Builtin.Dict.showsAll;rw [if_neg (by rw [hd]; exact Bp)];refine wpAny_bind (wpAny_pure ?_);refine wpAny_bind (wpAny_dictEntries ho hdat ?_);refine wpAny_bind (wpAny_dictEpoch ho hdat ?_);refine wpAny_bind (wpAny_newObj_type (wpAny_pure ⟨_, rfl, "dict_keyiterator", _, ⟨_, Heap.get?_push_size _ rfl, rfl⟩, F.slot_dict_keyiterator_next.lookup, ?_⟩))
 simpa [rawInt] using hQ
theorem Uv {it d : Addr} {i n ep : Nat} {od : Obj} {es : Array DictEntry} {Q : Option Value → Shared → Prop} (hh : A.handled = none) (hit : s.heap.IsKeyIter it d i n ep) (hod : s.heap.get? d = some od) (hdd : od.data = .dict es ep)
  (hsz : es.size = n) (hge : n ≤ i) (hQ : ∀ h', Heap.ExtBut it s.heap h' → Q none { s with heap := h' }) : wpAny (model prog w) A (pyNext (.ref it)) Q E s := by
 obtain ⟨o, ho, hc, hd⟩ := id hit;unfold pyNext;refine wpAny_bind (wpAny_attempt (wpAny_callSpecial?_slot (name := Str.ofString "__next__") hit.typeIs F.slot_dict_keyiterator_next
  (wpAny_call_entry F.slot_dict_keyiterator_next hit.typeIs F.entry_dict_keyiterator_next ?_ (F.args_dict_keyiterator_next_1 _))))
 refine wpAny_bind (wpAny_pure ?_);refine wpAny_bind ?_;refine wpAny_bind ?_
 first | refine wpAny_bind (wpAny_typeNameOfWhole_keyiter hit.typeIs (wpAny_pure ?_)) | refine wpAny_bind (wpAny_typeNameOf_keyiter hit.typeIs (wpAny_pure ?_))
 refine wpAny_bind (wpAny_fieldsOf ho hd ?_);have hown : Builtin.Dict_items.ownsTuple "dict_keyiterator" = false := by decide
 simp only [hown, D0, if_false];show wpAny _ _ (if (Value.ref d == Value.none) = true then _ else _) _ _ s;rw [if_neg (show ¬ ((Value.ref d == Value.none) = true) from Bp)];refine wpAny_bind (wpAny_pure ?_);refine wpAny_bind (wpAny_dictEntries hod hdd ?_);rw [if_neg (by rw [hsz]; simp)];refine wpAny_bind (wpAny_pure ?_);refine wpAny_bind (wpAny_dictEpoch hod hdd ?_);rw [if_neg (by simp)];refine wpAny_pure ?_;have hge' : es.size ≤ i := by rw [hsz]; exact hge
 simp only [show ¬ ((i : Int) < 0) from by omega, if_false, D8, Array.getElem?_eq_none hge'];refine wpAny_bind ?_
 first | refine wpAny_bind (wpAny_typeNameOfWhole_keyiter hit.typeIs (wpAny_pure ?_)) | refine wpAny_bind (wpAny_typeNameOf_keyiter hit.typeIs (wpAny_pure ?_))
 show wpAny _ _ (setField (.ref it) 0 .none >>= _) _ _ s;refine wpAny_bind (wpAny_setField ho hd (by simp) ?_);show wpAny _ _ (newExc (.type "StopIteration") [] >>= _) _ _ _;refine wpAny_bind ?_;simp only [newExc, newTuple];refine wpAny_bind (wpAny_newObj_type ?_ (by size_fits));refine wpAny_bind (m := firstArgMember _ _) (wpAny_of_eq (a := Value.none) (by first | rfl | (simp only [firstArgMember]; rfl)) ?_);refine wpAny_newObj_type ?_ (by size_fits);simp only [raiseNew];refine wpAny_bind (wpAny_handled ?_);rw [show A.in1.handled = none from hh];refine wpAny_bind (wpAny_pure (wpAny_throw ?_));refine wpAny_bind (wpAny_isInstance (T := "StopIteration") (b := true) ⟨_, Heap.get?_push_size _ rfl, rfl⟩ isSubtype_stop ?_);exact wpAny_pure (hQ _ (((Heap.SameBut.update ..).extBut.push _).push _))
end
theorem Ajo {κ : Type} {kvs : List (κ × V)} {vs : List (κ × Value)} (h : KV kvs vs) : ∀ {i : Nat} {k : κ} {v : V}, kvs[i]? = some (k, v) → ∃ u, vs[i]? = some (k, u) ∧ Df v u := by
 unfold KV at h
 induction h with
 | nil => intro i k v e; simp at e
 | @cons a b l₁ l₂ r t ih =>
  intro i k v e
  cases i with
  | zero =>
   simp only [List.getElem?_cons_zero, Option.some.injEq] at e;subst e;refine ⟨b.2, ?_, r.2⟩;simp only [List.getElem?_cons_zero];exact congrArg some (Prod.ext r.1.symm rfl)
  | succ j =>
   simp only [List.getElem?_cons_succ] at e ⊢;exact ih e
theorem Ae7 {k : Key} {u : Value} (h : U0 k u = true) : Df (kV k) u := by
 rcases Er h with ⟨i, t, rfl, rfl⟩ | ⟨x, t, rfl, rfl⟩
 ·exact ⟨t, rfl⟩
 ·exact ⟨t, rfl⟩
section
variable {X : Cx} {pins : List (Addr × Obj)} {σ : St} {H : Hp} {s : Shared} {d : Addr} {o : Obj}
theorem Inv.frzK {kvs : List (Key × V)} (I : Inv X pins σ H s) (h : H d = some (.frz o (.dK kvs))) :
  (d == sysModules) = false ∧ s.heap.get? d = some o ∧ o.ExactDict ∧ ∃ (es : Array DictEntry) (ep : Nat) (vs : List (Key × Value)), o.data = .dict es ep ∧ es.size = kvs.length ∧ KV kvs vs ∧ s.heap.DictAt (Eu X.prog X.w) d vs ep := by
 obtain ⟨hd, z, hs, vs, kv, o', es, ep, ho, hx, hdt, r⟩ := I.hok d _ h;rw [hd] at ho
 cases ho
 refine ⟨hs, hd, hx, es, ep, vs, hdt, ?_, kv, o, es, hd, hx, hdt, r⟩;have l1 := r.2.1.length;have l2 : kvs.length = vs.length := Paired.length kv;rw [Ep] at l1;omega
end
def Itk (d : Addr) (o : Obj) (kvs : List (Key × V)) : It :=
 ⟨fun i H => H d = some (.frz o (.dK kvs)) ∧ i < kvs.length, fun i H x H' => H' = H ∧ ∃ k v, kvs[i]? = some (k, v) ∧ x = kV k, fun i H => H d = some (.frz o (.dK kvs)) ∧ kvs.length ≤ i⟩
theorem Adb {o : Obj} {es es' : Array DictEntry} {ep ep' : Nat} (h : o.data = .dict es ep) (h' : o.data = .dict es' ep') : es' = es ∧ ep' = ep := by
 rw [h] at h'
 cases h'
 exact ⟨rfl, rfl⟩
section
variable {P : Program} {w : World} {K : Ad} {tg : Expr} {d : Addr} {o : Obj} {es : Array DictEntry} {ep : Nat}
theorem Vw {kvs : List (Key × V)} (it : Addr) (hod : o.data = .dict es ep) : Afe P w K tg (Itk d o kvs) [it] it (fun i h => h.IsKeyIter it d i kvs.length ep) where
 mem := by simp
 obj := fun i h st b hb => by
  have e : b = it := by simpa using hb
  subst e;obtain ⟨oi, e, c, dd⟩ := st;exact ⟨oi, e, fun v z => by rw [dd] at z; cases z⟩
 keep := fun i h h' st k => st.at fun oi e => k it (by simp) oi e
 item := by
  intro X hP hw hK hc i pins s σ H E I hf st hg;subst hP hw hK;obtain ⟨hd, hi⟩ := hg;obtain ⟨f0, f1, f2, f3, f4, f5⟩ := hf it (by simp);obtain ⟨hs, hgd, hx, es', ep', vs, hdt, hsz, kv, hm⟩ := I.frzK hd;obtain ⟨rfl, rfl⟩ := Adb hod hdt;obtain ⟨⟨k, v⟩, hkv⟩ : ∃ p, kvs[i]? = some p := ⟨kvs[i], Aq hi⟩;obtain ⟨u, hu, ru⟩ := Ajo kv hkv;have hl : kvs.length = vs.length := Paired.length kv;rw [hl] at st;refine wpAny_pyNext_dict_item st hm hu fun key h' hkey st' sb => ?_;have I1 : Inv X pins σ H { s with heap := h' } := I.turned (t' := s.toks) (fun b ob hb e => (sb.2 b hb).trans e) f0 f1 f3 f4 f5;obtain ⟨oi, e, c, dd⟩ := id st';refine ⟨key, rfl, Ahs (s := { s with heap := h' }) e c dd (by decide) ⟨kV k, H, I1, Ae7 (show U0 k key = true from hkey), ⟨rfl, k, v, hkv, rfl⟩, ?_, fun b hb => (hf b hb).1⟩⟩;show h'.IsKeyIter it d (i + 1) kvs.length _;rw [hl];exact st'
 done := by
  intro X hP hw hK hc i pins s σ H E I hf st hg;subst hP hw hK;obtain ⟨hd, hi⟩ := hg;obtain ⟨f0, f1, f2, f3, f4, f5⟩ := hf it (by simp);obtain ⟨hs, hgd, hx, es', ep', vs, hdt, hsz, kv, hm⟩ := I.frzK hd;obtain ⟨rfl, rfl⟩ := Adb hod hdt;exact Uv (I.ok.hd hc) st hgd hdt hsz hi fun h' eb => ⟨rfl, I.turned (t' := s.toks) (fun b ob hb e => eb b ob hb e) f0 f1 f3 f4 f5⟩
 self := fun A i s Q E st h => wpAny_pyIter_keyiter st h
end
section
variable {X : Cx} {tg e : Expr} {td : TE} {apos cpos : Pos}
end
theorem Wk : bootBuiltins "zip" = some (.type "zip") := by decide +kernel
def Itz (K : Ad) (a b : Addr) : It :=
 ⟨fun i H => ∃ (xs ys : List V) (x y : V), SqL K H a xs ∧ SqL K H b ys ∧ xs[i]? = some x ∧ ys[i]? = some y,
  fun i H v H' => ∃ T x y, v = .ref T ∧ H T = none ∧ H' = upd H T (.tup [x, y]) ∧ (∀ xs, SqL K H a xs → xs[i]? = some x) ∧ ∀ ys, SqL K H b ys → ys[i]? = some y,
  fun i H => ∃ xs ys : List V, SqL K H a xs ∧ SqL K H b ys ∧ (xs.length ≤ i ∨ ys.length ≤ i)⟩
theorem Adt {P : Program} {w : World} {K : Ad} {elts : List Expr} {kk : Nat} {tpos : Pos} {a b z TI TO i1 i2 : Addr} (D : ZipApart z TI TO i1 i2 a b) :
  Afe P w K (.Tuple elts kk tpos) (Itz K a b) [z, TI, TO, i1, i2] z (fun i h => IsZip h z TI TO .none ∧ IsPair h TI (.ref i1) (.ref i2) ∧ (∃ x y, IsPair h TO x y) ∧ h.IsListIter i1 a i ∧ h.IsListIter i2 b i) where
 mem := by simp
 obj := fun i h st c hc => by
  obtain ⟨hz, hTI, ⟨x, y, hTO⟩, ⟨o1, e1, _, d1⟩, ⟨o2, e2, _, d2⟩⟩ := st;have e' : c = z ∨ c = TI ∨ c = TO ∨ c = i1 ∨ c = i2 := by simpa using hc
  rcases e' with q | q | q | q | q
  ·rw [q]; exact ⟨_, hz, fun v q => nomatch q⟩
  ·rw [q]; exact ⟨_, hTI, fun v q => nomatch q⟩
  ·rw [q]; exact ⟨_, hTO, fun v q => nomatch q⟩
  ·rw [q]; exact ⟨o1, e1, fun v q => by rw [d1] at q; cases q⟩
  ·rw [q]; exact ⟨o2, e2, fun v q => by rw [d2] at q; cases q⟩
 keep := fun i h h' st k => by
  obtain ⟨hz, hTI, ⟨x, y, hTO⟩, h1, h2⟩ := st;exact ⟨k z (by simp) _ hz, k TI (by simp) _ hTI, ⟨x, y, k TO (by simp) _ hTO⟩, h1.at fun o q => k i1 (by simp) o q, h2.at fun o q => k i2 (by simp) o q⟩
 item := by
  intro X hP hw hK hc i pins s σ H E I hf st hg;subst hP hw hK;obtain ⟨hz, hTI, ⟨x0, y0, hTO⟩, h1, h2⟩ := st;obtain ⟨xs, ys, x, y, hqx, hqy, hx, hy⟩ := hg;obtain ⟨its, rv, p, _⟩ := I.list hqx;obtain ⟨its2, rv2, p2, _⟩ := I.list hqy;obtain ⟨u, hu, ru⟩ := rv.get hx;obtain ⟨u2, hu2, ru2⟩ := rv2.get hy;have hzl : z < s.heap.objs.size := Heap.lt_size hz;refine wpAny_pyNext_zip_item D hz hTI hTO h1 h2 p.isList p2.isList (x := u) (y := u2) (by simpa using hu) (by simpa using hu2) fun h' z' TO' h1' h2' hT hsz hk => ?_;refine ⟨_, rfl, wpAny_letOwnedTupleGo_zip (s := { s with heap := h' }) z' fun h'' z'' sb => ?_⟩;have hT2 : h''.get? s.heap.objs.size = some { cls := .type "tuple", data := .seq #[u, u2] } := (sb.2 _ (Vl hzl)).trans hT;have new : Fw X.prog X.w (upd H s.heap.objs.size (.tup [x, y])) h'' s.heap.objs.size (.tup [x, y]) :=
   ⟨by show 2 ≤ sizeLine; decide, [u, u2], .cons ru (.cons ru2 .nil), ⟨_, hT2, rfl, _, rfl⟩⟩
  have I1 : Inv X pins σ (upd H s.heap.objs.size (.tup [x, y])) { s with heap := h'' } :=
   I.turnedNew (t' := s.toks) (ch := [z, TI, TO, i1, i2]) (fun c o hb q => (sb.2 c (fun q' => hb (by simp [q']))).trans (hk c o (fun q' => hb (by simp [q'])) (fun q' => hb (by simp [q'])) (fun q' => hb (by simp [q'])) (fun q' => hb (by simp [q'])) q)) hf (Ak _) new
  refine ⟨.ref s.heap.objs.size, _, I1, rfl, ⟨_, x, y, rfl, I.hok.fresh (Ak _), rfl, fun l hl => by rw [I.list_inj hl hqx]; exact hx, fun l hl => by rw [I.list_inj hl hqy]; exact hy⟩, ⟨z'', ?_, ⟨u, u2, ?_⟩, ?_, ?_⟩, fun c hcm => ?_⟩
  ·exact (sb.2 _ D.TIz).trans (hk _ _ D.TIz D.TITO D.TIi1 D.TIi2 hTI)
  ·exact (sb.2 _ D.TOz).trans TO'
  ·exact h1'.at fun o q => (sb.2 _ D.i1z).trans q
  ·exact h2'.at fun o q => (sb.2 _ D.i2z).trans q
  ·have hlt : c < s.heap.objs.size := by
    have e' : c = z ∨ c = TI ∨ c = TO ∨ c = i1 ∨ c = i2 := by simpa using hcm
    rcases e' with q | q | q | q | q
    ·rw [q]; exact hzl
    ·rw [q]; exact Heap.lt_size hTI
    ·rw [q]; exact Heap.lt_size hTO
    ·rw [q]; obtain ⟨_, e1, _⟩ := h1; exact Heap.lt_size e1
    ·rw [q]; obtain ⟨_, e2, _⟩ := h2; exact Heap.lt_size e2
   rw [Aw (Cj hlt)];exact (hf c hcm).1
 done := by
  intro X hP hw hK hc i pins s σ H E I hf st hg;subst hP hw hK;obtain ⟨hz, hTI, ⟨x0, y0, hTO⟩, h1, h2⟩ := st;obtain ⟨xs, ys, hqx, hqy, hend⟩ := hg;obtain ⟨its, rv, p, _⟩ := I.list hqx;obtain ⟨its2, rv2, p2, _⟩ := I.list hqy;have l1 := rv.length;have l2 := rv2.length;have he : its.toArray[i]? = none ∨ its2.toArray[i]? = none := by
   rcases hend with q | q
   ·exact .inl (by simp; omega)
   ·exact .inr (by simp; omega)
  exact wpAny_pyNext_zip_end (I.ok.hd hc) D hz hTI hTO h1 h2 p.isList p2.isList he fun h' hk => ⟨rfl, I.turnedL (t' := s.toks) (ch := [z, TI, TO, i1, i2]) (fun c o hb q =>
   hk c o (fun q' => hb (by simp [q'])) (fun q' => hb (by simp [q'])) (fun q' => hb (by simp [q'])) (fun q' => hb (by simp [q'])) q) hf⟩
 self := fun A i s Q E st h => wpAny_pyIter_zip st.1 h
def iZip (K : Ad) (ta : TA) : TI := fun σ H R => ta σ H fun vs H1 => ∃ a b xs ys, vs = [.ref a, .ref b] ∧ SqL K H1 a xs ∧ SqL K H1 b ys ∧ R (Itz K a b) H1
theorem Aiz {X : Cx} {e e2 : Expr} {ta : TA} {p pos tpos : Pos} {elts : List Expr} {kk : Nat} (hg : Gl X "zip") (hm : X.mg "zip" = none) (ha : PA X [e, e2] ta)
  (hs : starEach [e, e2] X.env = (false, eval e X.env) :: starEach [e2] X.env := by rfl) (hpl : (backTo pos (starEach [e2] X.env)).any (·.1) = false := by rfl) :
  PI X (.Tuple elts kk tpos) (.Call (.Name "zip" p) [e, e2] [] pos) (iZip X.K ta) := by
 intro pins s σ H R I h;refine Call_ (S2 I hg hm Wk (Oo (thn (ha pos pins s σ H _ I h) fun us s1 ⟨vs, H1, I1, r1, q1⟩ => ?_) hs hpl));obtain ⟨a, b, xs, ys, ex, hqx, hqy, q⟩ := q1;subst ex
 cases r1 with
 | cons r rr =>
  cases rr with
  | cons r' rr =>
   cases rr
   cases r
   cases r'
   obtain ⟨its, rv, p1, _⟩ := I1.list hqx;obtain ⟨its2, rv2, p2, _⟩ := I1.list hqy;have la : a < s1.heap.objs.size := p1.lt;have lb : b < s1.heap.objs.size := p2.lt;refine call_zip_2 p1.isList p2.isList fun h' hz hTI hTO h1 h2 hsz hk => wpAny_pyIter_zip hz ?_;have I2 : Inv X pins σ H1 { s1 with heap := h' } := I1.kept (t' := s1.toks) hk;refine ⟨s1.heap.objs.size + 4, [s1.heap.objs.size + 4, s1.heap.objs.size + 2, s1.heap.objs.size + 3, s1.heap.objs.size, s1.heap.objs.size + 1], _, _, H1, rfl, I2, Adt (PySem.W.ktu_apart s1.heap.objs.size a b la lb), ⟨hz, hTI, ⟨_, _, hTO⟩, h1, h2⟩, fun c hcm => ?_, q⟩;have e' : c = s1.heap.objs.size + 4 ∨ c = s1.heap.objs.size + 2 ∨ c = s1.heap.objs.size + 3 ∨ c = s1.heap.objs.size ∨ c = s1.heap.objs.size + 1 := by simpa using hcm
   have hle : s1.heap.objs.size ≤ c := by
    rcases e' with z | z | z | z | z
    ·rw [z]; exact Gn _ _
    ·rw [z]; exact Gn _ _
    ·rw [z]; exact Gn _ _
    ·rw [z]; exact Ak _
    ·rw [z]; exact Gn _ _
   exact I1.fpOk hle (I1.hok.fresh hle)
end L2
section
namespace Bits
open PySem PyProof.Rows
end Bits
end
section
namespace TL
open PySem PySem.Builtin PySem.Builtin.Str PySem.StrLaws
end TL
end
namespace L2
open PySem PySem.Spec PyProof.Rows
section
variable {X : Cx} {pins : List (Addr × Obj)} {σ : St} {H : Hp} {s : Shared} {Q : VK}
end
section
variable {X : Cx}
end
section
variable {X : Cx} {o e : Expr} {to te : TE}
end
end L2
namespace L2
open PySem PySem.Spec PyProof.Rows
section
variable {X : Cx}
end
end L2
namespace Att
open PySem PySem.W PySem.Calls PyProof.Rows
section
variable {prog : Program} {w : World} {A : Around} {E : Value → Shared → Prop} {s : Shared} {K : Frag}
end
end Att
namespace L2
open PySem PySem.Spec PyProof.Rows
end L2
namespace L2
open PySem PySem.Spec PyProof.Rows
end L2
namespace L2
open PySem PySem.Spec PyProof.Rows
def F4 (s : Stmt) (j : Nat) : Stmt := match s with
 | .ClassDef _ _ _ body _ _ _ _ _ _ _ => body.getD j (.Pass ⟨0, 0, 0, 0⟩)
 | _ => .Pass ⟨0, 0, 0, 0⟩
def F5 (s : Stmt) : Arguments := match s with
 | .FunctionDef _ a _ _ _ _ _ _ _ _ => a
 | _ => { posonlyargs := [], args := [], vararg := none, kwonlyargs := [], kw_defaults := [], kwarg := none, defaults := [] }
def Fo (s : Stmt) : List Stmt := match s with
 | .FunctionDef _ _ b _ _ _ _ _ _ _ => b
 | _ => []
def Ar (s : Stmt) : Scope := match s with
 | .FunctionDef _ _ _ _ _ _ sc _ _ _ => sc
 | _ => { kind := .function, names := [], isGenerator := false, isCoroutine := false }
abbrev CX0 : CXT := fun _ _ _ _ _ _ => False
abbrev E0 : XK := fun _ _ _ => False
theorem Zf {X : Cx} : Oj CX0 X E0 := fun _ _ _ _ _ _ _ h => h.elim
structure Fun (K : Ad) (x qual : Str) (st : Stmt) (f : Addr) (fd : FuncData) : Prop where
 ex : ∃ (oc : Value) (od : Option Addr) (kV doc pm : Value) (an : Option Addr) (cdv ct : Value) (osl : Array (Option Value)),
  fd = Ds x qual (F5 st) (Fo st) (Ar st) .none kV doc pm an cdv ct ∧ K.lookup f = some ⟨oc, od, .func fd, osl⟩ ∧ Km K cdv qual = true
 kp : Dx K (.ref f) = true
section
variable {P : Program} {w : World} {K : Ad} {mg : Str → Option Value} {base : Heap}
theorem Fun.ok {x qual : Str} {st : Stmt} {f : Addr} {fd : FuncData} {N ps : List Str} {k : Nat} {sp : Sp} (F : Fun K x qual st f fd) (S : A8 N ps (Ar st)) (len : ∀ vs H Q E, sp vs H Q E → vs.length = ps.length)
  (hbody : ∀ (cdv : Value) (A : Around) (outer : List Env) (s : Shared) (H : Hp) (vs : List V) (Q : VK) (E : XK), Fx k (A.deeper (envOfC qual (Ar st) s.heap.objs.size f cdv)) → sp vs H Q E →
   ∃ t, PSs (Agb CX0 P w K mg base N qual (Ar st) f cdv A outer s H E).nox (Fo st) t ∧ t { nx := fun _ H' => Q .non H', rt := Q } (start N vs) H) : Hu P w K mg base CX0 (k + 1) f fd ps sp := by
 obtain ⟨oc, od, kV, doc, pm, an, cdv, ct, osl, rfl, lk, hcd⟩ := F.ex;refine Aky lk hcd S len fun A outer s H vs Q E hr hsp => ?_;obtain ⟨t, h, q⟩ := hbody cdv A outer s H vs Q E hr hsp;exact ⟨t, h.nox, q⟩
theorem Fun.binds {x qual : Str} {st : Stmt} {f : Addr} {fd : FuncData} {ps : List Str} (F : Fun K x qual st f fd)
  (h : ∀ (kV doc pm : Value) (an : Option Addr) (cdv ct : Value) (us : List Value), us.length = ps.length → bindArgs (Ds x qual (F5 st) (Fo st) (Ar st) .none kV doc pm an cdv ct) ⟨us, []⟩ = pure (ps.zip us)) : Gw K fd ps [] := by
 obtain ⟨oc, od, kV, doc, pm, an, cdv, ct, osl, rfl, lk, hcd⟩ := F.ex;exact .all (h kV doc pm an cdv ct)
theorem S8 {x qual : Str} {st : Stmt} {f : Addr} {oc : Value} {od an : Option Addr} {osl : Array (Option Value)} {kV doc pm cdv ct : Value} (l : K.lookup f = some ⟨oc, od, .func (Ds x qual (F5 st) (Fo st) (Ar st) .none kV doc pm an cdv ct), osl⟩)
  (c : Km K cdv qual = true) (k : Dx K (.ref f) = true) : Fun K x qual st f (Ds x qual (F5 st) (Fo st) (Ar st) .none kV doc pm an cdv ct) := ⟨⟨oc, od, kV, doc, pm, an, cdv, ct, osl, rfl, l, c⟩, k⟩
end
theorem U3 {A : Around} {k : Nat} (hr : Fx k A) : A.units + 1 < cLine := Aam (Nat.add_le_add_left (by decide : 1 ≤ 64) _) hr.units
theorem C0 {n : Nat} (h : n ≤ 1000) : n < sizeLine := Aam h (by decide)
section
variable {X : Cx}
theorem pv (i : Nat) {x : Str} {pos : Pos} (hN : X.N[i]? = some x := by rfl) (hv : Vis X.env.scope x := by first | exact A7 rfl | exact Aie (A7 rfl) | exact Aie (Aie rfl)) (hd : (x == ("__debug__" : Str)) = false := by decide)
  (hcd : (x == ("__classdict__" : Str)) = false := by decide) : PE X (.Name x pos) (Fj i) := Aj1 hN hv hd hcd
theorem Wj : Sh X (.builtin "len") (fun xs H Q => ∃ a kvs, xs = [V.ref a] ∧ H a = some (.dK kvs) ∧ Q (.int kvs.length) H) := by
 intro pins s σ H xs us Q I r h;obtain ⟨a, kvs, rfl, ha, q⟩ := h;obtain ⟨u, rfl, ru⟩ := Adr r
 cases ru
 exact Al1 I (.inl ha) fun t s' I' => ⟨.int kvs.length, H, I', ⟨t, rfl⟩, q⟩
end
theorem iteF {A B : Prop} (h : B) : if false = true then A else B := by
 rw [if_neg Bp];exact h
theorem U2 {A B : Prop} (h : A) : if true = true then A else B := by
 rw [if_pos rfl];exact h
theorem Cm {c A B : Prop} [Decidable c] (h1 : c → A) (h2 : ¬ c → B) : if c then A else B := by
 by_cases h : c
 ·rw [if_pos h];exact h1 h
 ·rw [if_neg h];exact h2 h
section
variable {κ : Type} [DecidableEq κ]
theorem Ads {kvs : List (κ × V)} {k : κ} (h : Fm kvs k = none) : ¬ k ∈ kvs.map (·.1) := by
 intro m;obtain ⟨p, hp, e⟩ := Ay.mp m;have q : (kvs.any fun kv => decide (kv.1 = k)) = true := List.any_eq_true.mpr ⟨p, hp, decide_eq_true e⟩;rw [O8, h] at q;exact absurd q (by simp)
theorem Qy : ∀ {l : List κ} {k : κ}, l.Nodup → ¬ k ∈ l → (l ++ [k]).Nodup
 | [], k, _, _ => by simp
 | a :: r, k, h, hk => by
  obtain ⟨h1, h2⟩ := Bt.mp h;show (a :: (r ++ [k])).Nodup;refine Bt.mpr ⟨fun m => ?_, Qy h2 fun m => hk (Az.mpr (Aie m))⟩
  rcases Ba.mp m with q | q
  ·exact h1 q
  ·exact hk (Az.mpr (A7 (A9.mp q).symm))
theorem Q5 {p : κ × V} {r : List (κ × V)} {k : κ} (e : p.1 = k) : Gk (p :: r) k = Gk r k := by
 unfold Gk;rw [Bu, if_neg (by simp [e])]
theorem Nj {p : κ × V} {r : List (κ × V)} {k : κ} (e : ¬ p.1 = k) : Gk (p :: r) k = p :: Gk r k := by
 unfold Gk;rw [Bu, if_pos (by simp [e])]
end
theorem Ew {xs : List V} {z : Int} {j : Nat} {v : V} (e : z = (j : Int)) (h : xs[j]? = some v) : atI xs z = some v := by
 rw [e];exact Ai5 h
theorem Sf {α : Type} {l : List α} (hN : l.Nodup) {i j : Nat} {x : α} (a : l[i]? = some x) (b : l[j]? = some x) : i = j := by
 obtain ⟨h1, e1⟩ := Af.mp a;obtain ⟨h2, e2⟩ := Af.mp b;exact (Afh hN).mp (e1.trans e2.symm)
end L2
section
set_option maxHeartbeats 2000000
namespace L2
open PySem PySem.Spec PyProof.Rows
open PySem.W (WData Codec OpenSpec Well WellAll ReadsW ReadsAllW)
mutual
inductive Dw (K : Ad) (H : Hp) : V → WData → Prop
 | non : Dw K H .non .none
 | bl (b : Bool) : Dw K H (.bl b) (.bool b)
 | int (i : Int) : Dw K H (.int i) (.int i)
 | str (x : Str) : Dw K H (.str x) (.str x)
 | byt (b : Array UInt8) : Dw K H (.byt b) (.bytes b.toList)
 | lst {a : Addr} {xs : List V} {ds : List WData} : SqL K H a xs → Nq K H xs ds → Dw K H (.ref a) (.list ds)
 | tup {a : Addr} {xs : List V} {ds : List WData} : SqT K H a xs → Nq K H xs ds → Dw K H (.ref a) (.tuple ds)
inductive Nq (K : Ad) (H : Hp) : List V → List WData → Prop
 | nil : Nq K H [] []
 | cons {v : V} {vs : List V} {d : WData} {ds : List WData} : Dw K H v d → Nq K H vs ds → Nq K H (v :: vs) (d :: ds)
end
theorem dw_ints {K : Ad} {H : Hp} : ∀ ns : List Int, Nq K H (ns.map V.int) (ns.map WData.int)
 | [] => .nil
 | n :: r => .cons (.int n) (dw_ints r)
theorem ints_dw {K : Ad} {H : Hp} : ∀ (ns : List Int) (xs : List V), Nq K H xs (ns.map WData.int) → xs = ns.map V.int
 | [], xs, h => by
  cases h
  rfl
 | n :: r, xs, h => by
  cases h with
  | cons h1 h2 =>
   cases h1
   rw [ints_dw r _ h2] <;> rfl
section
variable {P : Program} {w : World} {K : Ad} {H : Hp} {h : Heap} {R : PySem.W.WRecords} {cl : Str → Option Addr}
theorem Air {a : Addr} {xs : List V} (hok : HOk P w H h) (KX : K.In h) (q : SqL K H a xs) : ∃ (its : List Value) (o : Obj) (n : Nat), Cy xs its ∧ h.get? a = some o ∧ o.cls = .type "list" ∧ o.data = .seq its.toArray n := by
 rcases q with q | ⟨o, its, n, e, hc, _, hd, _, hv⟩
 ·obtain ⟨_, its, n, hv, e⟩ := (show Fw P w H h a (.lst xs) from q.ok hok);exact ⟨its, _, n, hv, e, rfl, rfl⟩
 ·exact ⟨its.toList, o, n, hv, KX _ _ e, hc, by simp [hd]⟩
theorem Aiq {a : Addr} {xs : List V} (hok : HOk P w H h) (KX : K.In h) (q : SqT K H a xs) : ∃ (its : List Value) (o : Obj) (n : Nat), Cy xs its ∧ h.get? a = some o ∧ o.cls = .type "tuple" ∧ o.data = .seq its.toArray n := by
 rcases q with q | ⟨o, its, n, e, hc, hd, _, hv⟩
 ·obtain ⟨_, its, hv, o, e, hc, n, hd⟩ := (show Fw P w H h a (.tup xs) from q.ok hok);exact ⟨its, o, n, hv, e, hc, hd⟩
 ·exact ⟨its.toList, o, n, hv, KX _ _ e, hc, by simp [hd]⟩
mutual
theorem Dw.reads (hok : HOk P w H h) (KX : K.In h) : ∀ (d : WData) (v : V) (u : Value), Dw K H v d → Df v u → ∃ as, ReadsW R cl h u d as
 | .none, _, _, x, r => by
  cases x
  cases r
  exact ⟨_, ReadsW.none⟩
 | .bool b, _, _, x, r => by
  cases x
  cases r
  exact ⟨_, ReadsW.bool b⟩
 | .int i, _, _, x, r => by
  cases x
  obtain ⟨t, rfl⟩ := r;exact ⟨_, ReadsW.int i t⟩
 | .str s, _, _, x, r => by
  cases x
  obtain ⟨t, rfl⟩ := r;exact ⟨_, ReadsW.str s t⟩
 | .bytes b, _, _, x, r => by
  cases x
  obtain ⟨t, rfl⟩ := r;exact ⟨_, ReadsW.bytes _ t⟩
 | .list ds, _, _, x, r => by
  cases x with
  | lst hs ha =>
   cases r
   obtain ⟨its, o, n, rv, ho, hc, hd⟩ := Air hok KX hs;obtain ⟨as, hr⟩ := Dw.readsAll hok KX ds _ its ha rv;exact ⟨_, ReadsW.list ho hc hd hr⟩
 | .tuple ds, _, _, x, r => by
  cases x with
  | tup hs ha =>
   cases r
   obtain ⟨its, o, n, rv, ho, hc, hd⟩ := Aiq hok KX hs;obtain ⟨as, hr⟩ := Dw.readsAll hok KX ds _ its ha rv;exact ⟨_, ReadsW.tuple ho hc hd hr⟩
 | .float _, _, _, x, _ => by cases x
 | .dict _, _, _, x, _ => by cases x
 | .bytearray _, _, _, x, _ => by cases x
 | .set _, _, _, x, _ => by cases x
 | .frozenset _, _, _, x, _ => by cases x
 | .obj _ _, _, _, x, _ => by cases x
theorem Dw.readsAll (hok : HOk P w H h) (KX : K.In h) : ∀ (ds : List WData) (vs : List V) (us : List Value), Nq K H vs ds → Cy vs us → ∃ as, ReadsAllW R cl h us ds as
 | [], _, _, x, r => by
  cases x
  cases r
  exact ⟨_, ReadsAllW.nil⟩
 | d :: ds, _, _, x, r => by
  cases x with
  | cons h1 h2 =>
   cases r with
   | cons r1 r2 =>
    obtain ⟨as, q1⟩ := Dw.reads hok KX d _ _ h1 r1;obtain ⟨bs, q2⟩ := Dw.readsAll hok KX ds _ _ h2 r2;exact ⟨_, ReadsAllW.cons q1 q2⟩
end
end
mutual
def plW : WData → Bool
 | .none => true
 | .bool _ => true
 | .int _ => true
 | .str _ => true
 | .bytes _ => true
 | .list xs => V9 xs
 | .tuple xs => V9 xs
 | _ => false
def V9 : List WData → Bool
 | [] => true
 | x :: r => plW x && V9 r
end
theorem Y8 {α : Type} {f : α → WData} (h : ∀ a, plW (f a) = true) : ∀ l : List α, V9 (l.map f) = true
 | [] => rfl
 | x :: r => by
  show (plW (f x) && V9 (r.map f)) = true;rw [h x, Y8 h r] <;> rfl
theorem N5 : ∀ (c : Codec) (a : c.denote), plW (c.enc a) = true
 | .unit, _ => rfl
 | .bool, _ => rfl
 | .int _ _, _ => rfl
 | .nat _ _, _ => rfl
 | .u8, _ => rfl
 | .bytes _ _, _ => rfl
 | .text _ _ _ _, _ => rfl
 | .list _ _ c, a => Y8 (fun x => N5 c x) a
 | .pair c d, a => by
  show (plW (c.enc a.1) && (plW (d.enc a.2) && true)) = true;rw [N5 c a.1, N5 d a.2] <;> rfl
 | .triple c d e, a => by
  show (plW (c.enc a.1) && (plW (d.enc a.2.1) && (plW (e.enc a.2.2) && true))) = true;rw [N5 c a.1, N5 d a.2.1, N5 e a.2.2] <;> rfl
 | .option c, none => rfl
 | .option c, some x => N5 c x
theorem V8 : ∀ (cs : List Codec) (a : Codec.denoteAll cs), V9 (Codec.encAll cs a) = true
 | [], _ => rfl
 | c :: cs, a => by
  show (plW (c.enc a.1) && V9 (Codec.encAll cs a.2)) = true;rw [N5 c a.1, V8 cs a.2] <;> rfl
theorem Nt : ∀ {xs : List WData} {d : WData}, d ∈ xs → d.weight ≤ WData.weightAll xs
 | [], d, h => absurd h (by simp)
 | x :: r, d, h => by
  show d.weight ≤ x.weight + 1 + WData.weightAll r
  rcases Az.mp h with e | m
  ·rw [e];omega
  ·have z := Nt m;omega
def toV : Value → V
 | .none => .non
 | .bool b => .bl b
 | .int i _ => .int i
 | .str x _ => .str x
 | .bytes b _ => .byt b
 | .ref a => .ref a
 | _ => .non
def OkU (A : List Addr) : Value → Prop
 | .none => True
 | .bool _ => True
 | .int _ _ => True
 | .str _ _ => True
 | .bytes _ _ => True
 | .ref a => a ∈ A
 | _ => False
theorem OkU.mono {A B : List Addr} (h : ∀ a ∈ A, a ∈ B) : ∀ {u : Value}, OkU A u → OkU B u := fun {u} x => by
 cases u with
 | ref a => exact h a x
 | none => trivial
 | bool b => trivial
 | int i t => trivial
 | str s t => trivial
 | bytes b t => trivial
 | _ => exact Dn x
theorem Ae6 {A : List Addr} {u : Value} (x : OkU A u) : Df (toV u) u := by
 cases u with
 | ref a => rfl
 | none => rfl
 | bool b => rfl
 | int i t => exact ⟨t, rfl⟩
 | str s t => exact ⟨t, rfl⟩
 | bytes b t => exact ⟨t, rfl⟩
 | _ => exact Dn x
theorem Ks {A : List Addr} : ∀ {vs : List Value}, (∀ u ∈ vs, OkU A u) → Cy (vs.map toV) vs
 | [], _ => .nil
 | u :: r, h => .cons (Ae6 (h u (A0 ..))) (Ks fun x hx => h x (Am _ hx))
def Nr (h : Heap) (A : List Addr) (a : Addr) : Prop := ∃ vs : List Value, vs.length ≤ sizeLine ∧ (∀ u ∈ vs, OkU A u) ∧
 (h.get? a = some { cls := .type "list", data := .seq vs.toArray } ∨ h.get? a = some { cls := .type "tuple", data := .seq vs.toArray })
theorem Nr.mono {h : Heap} {A B : List Addr} {a : Addr} (k : ∀ a ∈ A, a ∈ B) (x : Nr h A a) : Nr h B a := by
 obtain ⟨vs, h1, h2, h3⟩ := x;exact ⟨vs, h1, fun u hu => (h2 u hu).mono k, h3⟩
theorem Jm {P : Params} {h : Heap} : ∀ {vs : List Value} {ds : List WData}, WellAll P h vs ds → vs.length = ds.length
 | _, _, .nil => rfl
 | _, _, .cons _ b => by
  show _ + 1 = _ + 1;rw [Jm b]
theorem Vu {P : Params} {h : Heap} {v : Value} {ds : List WData} (x : Well P h v (.list ds)) : ∃ (a : Addr) (vs : List Value), v = .ref a ∧ h.get? a = some { cls := .type "list", data := .seq vs.toArray } ∧ WellAll P h vs ds := by
 cases x with
 | list ho hall => exact ⟨_, _, rfl, ho, hall⟩
theorem Si {P : Params} {h : Heap} {v : Value} {ds : List WData} (x : Well P h v (.tuple ds)) : ∃ (a : Addr) (vs : List Value), v = .ref a ∧ h.get? a = some { cls := .type "tuple", data := .seq vs.toArray } ∧ WellAll P h vs ds := by
 cases x with
 | tuple ho hall => exact ⟨_, _, rfl, ho, hall⟩
theorem Vv {P : Params} {h : Heap} {us : List Value} {d : WData} {ds : List WData} (x : WellAll P h us (d :: ds)) : ∃ (v : Value) (vs : List Value), us = v :: vs ∧ Well P h v d ∧ WellAll P h vs ds := by
 cases x with
 | cons a b => exact ⟨_, _, rfl, a, b⟩
theorem Ad0 {n : Nat} (h : n ≤ 1048576) : n ≤ sizeLine := Bz h (by decide)
section
variable {P : Params} {h : Heap}
mutual
theorem Afc : ∀ (d : WData) (v : Value), Well P h v d → plW d = true → d.weight ≤ 1048576 → ∃ A : List Addr, OkU A v ∧ ∀ a ∈ A, Nr h A a
 | .none, _, x, _, _ => by
  cases x
  exact ⟨[], trivial, fun a m => absurd m (by simp)⟩
 | .bool b, _, x, _, _ => by
  cases x
  exact ⟨[], trivial, fun a m => absurd m (by simp)⟩
 | .int i, _, x, _, _ => by
  cases x
  exact ⟨[], trivial, fun a m => absurd m (by simp)⟩
 | .str s, _, x, _, _ => by
  cases x
  exact ⟨[], trivial, fun a m => absurd m (by simp)⟩
 | .bytes b, _, x, _, _ => by
  cases x
  exact ⟨[], trivial, fun a m => absurd m (by simp)⟩
 | .list ds, _, x, p, z => by
  obtain ⟨a, vs, rfl, ho, hall⟩ := Vu x;have z2 : WData.weightAll ds ≤ 1048576 := z;obtain ⟨A, h1, h2⟩ := Qh ds _ hall p fun d hd => Bz (Nt hd) z2;have k : ∀ b ∈ A, b ∈ a :: A := fun b hb => Am _ hb;refine ⟨a :: A, A0 .., fun b hb => ?_⟩
  rcases Az.mp hb with e | m
  ·rw [e];exact ⟨vs, Ad0 (by rw [Jm hall]; exact Bz (Agj ds) z2), fun u hu => (h1 u hu).mono k, .inl ho⟩
  ·exact (h2 b m).mono k
 | .tuple ds, _, x, p, z => by
  obtain ⟨a, vs, rfl, ho, hall⟩ := Si x;have z2 : WData.weightAll ds ≤ 1048576 := z;obtain ⟨A, h1, h2⟩ := Qh ds _ hall p fun d hd => Bz (Nt hd) z2;have k : ∀ b ∈ A, b ∈ a :: A := fun b hb => Am _ hb;refine ⟨a :: A, A0 .., fun b hb => ?_⟩
  rcases Az.mp hb with e | m
  ·rw [e];exact ⟨vs, Ad0 (by rw [Jm hall]; exact Bz (Agj ds) z2), fun u hu => (h1 u hu).mono k, .inr ho⟩
  ·exact (h2 b m).mono k
 | .float _, _, _, p, _ => Dc (show false = true from p)
 | .dict _, _, _, p, _ => Dc (show false = true from p)
 | .bytearray _, _, _, p, _ => Dc (show false = true from p)
 | .set _, _, _, p, _ => Dc (show false = true from p)
 | .frozenset _, _, _, p, _ => Dc (show false = true from p)
 | .obj _ _, _, _, p, _ => Dc (show false = true from p)
theorem Qh : ∀ (ds : List WData) (vs : List Value), WellAll P h vs ds → V9 ds = true → (∀ d ∈ ds, d.weight ≤ 1048576) → ∃ A : List Addr, (∀ u ∈ vs, OkU A u) ∧ ∀ a ∈ A, Nr h A a
 | [], _, x, _, _ => by
  cases x
  exact ⟨[], fun u m => absurd m (by simp), fun a m => absurd m (by simp)⟩
 | d :: ds, _, x, p, z => by
  obtain ⟨v, vs, rfl, x1, x2⟩ := Vv x;have q : plW d = true ∧ V9 ds = true := Bool.and_eq_true_iff.mp p;obtain ⟨A, a1, a2⟩ := Afc d v x1 q.1 (z d (A0 ..));obtain ⟨B, b1, b2⟩ := Qh ds vs x2 q.2 fun e he => z e (Am _ he);have kA : ∀ b ∈ A, b ∈ A ++ B := fun b hb => Ba.mpr (.inl hb);have kB : ∀ b ∈ B, b ∈ A ++ B := fun b hb => Ba.mpr (.inr hb);refine ⟨A ++ B, fun u hu => ?_, fun b hb => ?_⟩
  ·rcases Az.mp hu with e | m
   ·rw [e];exact a1.mono kA
   ·exact (b1 u m).mono kB
  ·rcases Ba.mp hb with m | m
   ·exact (a2 b m).mono kA
   ·exact (b2 b m).mono kB
end
end
def Ajv (o : Obj) : Option HO := match o.data with
 | .seq vs _ => if (o.cls == Value.type "list") = true then some (.frz o (.lst (vs.toList.map toV))) else some (.frz o (.tup (vs.toList.map toV)))
 | _ => none
def Nm (K : Ad) (h : Heap) (A : List Addr) : Hp := fun b => if b ∈ A then (if (K.lookup b).isNone = true then (h.get? b).bind Ajv else none) else none
def Ac6 (H : Hp) : Prop := ∀ b, H b = none ∨ ∃ o u, H b = some (.frz o u)
theorem Z0 (vs : List Value) : Ajv { cls := .type "list", data := .seq vs.toArray } = some (.frz { cls := .type "list", data := .seq vs.toArray } (.lst (vs.map toV))) := by
 show (if (Value.type "list" == Value.type "list") = true then some (HO.frz { cls := .type "list", data := .seq vs.toArray } (.lst (vs.toArray.toList.map toV))) else some (HO.frz { cls := .type "list", data := .seq vs.toArray } (.tup (vs.toArray.toList.map toV)))) = _;rw [if_pos (beq_self_eq_true _)]
theorem Zz (vs : List Value) : Ajv { cls := .type "tuple", data := .seq vs.toArray } = some (.frz { cls := .type "tuple", data := .seq vs.toArray } (.tup (vs.map toV))) := by
 show (if (Value.type "tuple" == Value.type "list") = true then some (HO.frz { cls := .type "tuple", data := .seq vs.toArray } (.lst (vs.toArray.toList.map toV))) else some (HO.frz { cls := .type "tuple", data := .seq vs.toArray } (.tup (vs.toArray.toList.map toV)))) = _;rw [if_neg (by decide)]
section
variable {P : Program} {w : World} {K : Ad} {h : Heap} {A : List Addr}
theorem Vb {b : Addr} {o : Obj} (hb : b ∈ A) (hk : K.lookup b = none) (e : h.get? b = some o) : Nm K h A b = Ajv o := by
 unfold Nm;rw [if_pos hb, hk, if_pos (show (none : Option Obj).isNone = true from rfl), e] <;> rfl
theorem Ahh {b : Addr} {u : HO} (q : Nm K h A b = some u) : b ∈ A ∧ K.lookup b = none := by
 unfold Nm at q
 by_cases hb : b ∈ A
 ·rw [if_pos hb] at q
  cases hk : K.lookup b with
  | none => exact ⟨hb, rfl⟩
  | some o =>
   rw [hk, if_neg (by simp)] at q
   cases q
 ·rw [if_neg hb] at q
  cases q
theorem Va (ar : ∀ a ∈ A, Nr h A a) {b : Addr} {u : HO} (q : Nm K h A b = some u) : K.lookup b = none ∧ ∃ vs : List Value, vs.length ≤ sizeLine ∧ (∀ u ∈ vs, OkU A u) ∧
  ((h.get? b = some { cls := .type "list", data := .seq vs.toArray } ∧ u = .frz { cls := .type "list", data := .seq vs.toArray } (.lst (vs.map toV))) ∨
   (h.get? b = some { cls := .type "tuple", data := .seq vs.toArray } ∧ u = .frz { cls := .type "tuple", data := .seq vs.toArray } (.tup (vs.map toV)))) := by
 obtain ⟨hb, hk⟩ := Ahh q;obtain ⟨vs, h1, h2, h3⟩ := ar b hb;refine ⟨hk, vs, h1, h2, ?_⟩
 rcases h3 with e | e
 ·rw [Vb hb hk e, Z0] at q;exact .inl ⟨e, (Ah q).symm⟩
 ·rw [Vb hb hk e, Zz] at q;exact .inr ⟨e, (Ah q).symm⟩
theorem Ac5 (ar : ∀ a ∈ A, Nr h A a) : Ac6 (Nm K h A) := fun b => by
 cases q : Nm K h A b with
 | none => exact .inl rfl
 | some u =>
  obtain ⟨_, vs, _, _, ⟨_, e⟩ | ⟨_, e⟩⟩ := Va ar q
  ·exact .inr ⟨_, _, by rw [e]⟩
  ·exact .inr ⟨_, _, by rw [e]⟩
theorem Ai6 (ar : ∀ a ∈ A, Nr h A a) : HOk P w (Nm K h A) h := fun b u q => by
 obtain ⟨_, vs, h1, h2, ⟨e, rfl⟩ | ⟨e, rfl⟩⟩ := Va ar q
 ·exact ⟨e, by rw [Ac]; exact h1, vs, _, Ks h2, e⟩
 ·exact ⟨e, by rw [Ac]; exact h1, vs, Ks h2, _, e, rfl, _, rfl⟩
theorem Tt {c c' : Value} {vs us : List Value} (e : (some { cls := c, data := .seq vs.toArray } : Option Obj) = some { cls := c', data := .seq us.toArray }) : c = c' ∧ vs = us := by
 have e1 := Ah e;have e2 : c = c' := congrArg Obj.cls e1;have e3 : Data.seq vs.toArray = Data.seq us.toArray := congrArg Obj.data e1
 injection e3 with e4
 refine ⟨e2, ?_⟩;have e5 := congrArg Array.toList e4
 simpa using e5
theorem argL (KX : K.In h) (ar : ∀ a ∈ A, Nr h A a) {a : Addr} {vs : List Value} (ha : a ∈ A) (e : h.get? a = some { cls := .type "list", data := .seq vs.toArray }) : (∀ u ∈ vs, OkU A u) ∧ SqL K (Nm K h A) a (vs.map toV) := by
 obtain ⟨us, h1, h2, h3⟩ := ar a ha;have hu : us = vs := by
  rcases h3 with q | q
  ·rw [e] at q;exact (Tt q).2.symm
  ·rw [e] at q;exact absurd (Value.type.inj (Tt q).1) (by decide)
 subst hu;refine ⟨h2, ?_⟩
 cases hk : K.lookup a with
 | none => exact .inl (.inr ⟨_, by rw [Vb ha hk e, Z0]⟩)
 | some o =>
  have e2 := KX a o hk;rw [e] at e2;obtain rfl := Ah e2;exact .inr ⟨_, us.toArray, _, hk, rfl, rfl, rfl, by rw [A4]; exact h1, by simpa using Ks h2⟩
theorem argT (KX : K.In h) (ar : ∀ a ∈ A, Nr h A a) {a : Addr} {vs : List Value} (ha : a ∈ A) (e : h.get? a = some { cls := .type "tuple", data := .seq vs.toArray }) : (∀ u ∈ vs, OkU A u) ∧ SqT K (Nm K h A) a (vs.map toV) := by
 obtain ⟨us, h1, h2, h3⟩ := ar a ha;have hu : us = vs := by
  rcases h3 with q | q
  ·rw [e] at q;exact absurd (Value.type.inj (Tt q).1) (by decide)
  ·rw [e] at q;exact (Tt q).2.symm
 subst hu;refine ⟨h2, ?_⟩
 cases hk : K.lookup a with
 | none => exact .inl (.inr ⟨_, by rw [Vb ha hk e, Zz]⟩)
 | some o =>
  have e2 := KX a o hk;rw [e] at e2;obtain rfl := Ah e2;exact .inr ⟨_, us.toArray, _, hk, rfl, rfl, by rw [A4]; exact h1, by simpa using Ks h2⟩
mutual
theorem Ajy {Pm : Params} (KX : K.In h) (ar : ∀ a ∈ A, Nr h A a) : ∀ (d : WData) (v : Value), Well Pm h v d → plW d = true → OkU A v → Dw K (Nm K h A) (toV v) d
 | .none, _, x, _, _ => by
  cases x
  exact .non
 | .bool b, _, x, _, _ => by
  cases x
  exact .bl b
 | .int i, _, x, _, _ => by
  cases x
  exact .int i
 | .str s, _, x, _, _ => by
  cases x
  exact .str s
 | .bytes b, _, x, _, _ => by
  cases x
  have z := Dw.byt (K := K) (H := Nm K h A) b.toArray;exact z
 | .list ds, _, x, p, hu => by
  obtain ⟨a, vs, rfl, ho, hall⟩ := Vu x;obtain ⟨h2, hs⟩ := argL KX ar hu ho;exact .lst hs (Z6 KX ar ds _ hall p h2)
 | .tuple ds, _, x, p, hu => by
  obtain ⟨a, vs, rfl, ho, hall⟩ := Si x;obtain ⟨h2, hs⟩ := argT KX ar hu ho;exact .tup hs (Z6 KX ar ds _ hall p h2)
 | .float _, _, _, p, _ => Dc (show false = true from p)
 | .dict _, _, _, p, _ => Dc (show false = true from p)
 | .bytearray _, _, _, p, _ => Dc (show false = true from p)
 | .set _, _, _, p, _ => Dc (show false = true from p)
 | .frozenset _, _, _, p, _ => Dc (show false = true from p)
 | .obj _ _, _, _, p, _ => Dc (show false = true from p)
theorem Z6 {Pm : Params} (KX : K.In h) (ar : ∀ a ∈ A, Nr h A a) : ∀ (ds : List WData) (vs : List Value), WellAll Pm h vs ds → V9 ds = true → (∀ u ∈ vs, OkU A u) → Nq K (Nm K h A) (vs.map toV) ds
 | [], _, x, _, _ => by
  cases x
  exact .nil
 | d :: ds, _, x, p, hu => by
  obtain ⟨v, vs, rfl, x1, x2⟩ := Vv x;have q : plW d = true ∧ V9 ds = true := Bool.and_eq_true_iff.mp p;exact .cons (Ajy KX ar d v x1 q.1 (hu _ (A0 ..))) (Z6 KX ar ds vs x2 q.2 fun u m => hu u (Am _ m))
end
end
theorem Aay {P : Program} {w : World} {K : Ad} {mg mb : Str → Option Value} {CX : CXT} {k : Nat} {fa : Addr} {fd : FuncData} {ps : List Str} {sp : Sp} {s₁ : Shared} {vals : List Value} {ds : List WData} {R : PySem.W.WRecords} {cl : Str → Option Addr} {d0 : WData}
  (KX : K.In s₁.heap) (hns : s₁.heap.Ns mainGlobals mg) (hb : s₁.heap.Ns builtinsNs mb) (hbb : ∀ x : Str, x ≠ "__name__" → mb x = bootBuiltins x) (hlim : s₁.heap.NoLimit) (hg : s₁.gens = #[])
  (hwl : WellAll w.params s₁.heap vals ds) (hpl : V9 ds = true) (hwt : ∀ d ∈ ds, d.weight ≤ 1048576) (hr : Fx k callerA)
  (F : ∀ base : Heap, K.In base → base.Ns mainGlobals mg → Hu P w K mg base CX k fa fd ps sp) (hbind : ∀ (s : Shared) (us : List Value), us.length = ps.length → BindsTo s fd ⟨us, []⟩ (ps.zip us)) (hlen : ds.length = ps.length)
  (hsp : ∀ (H : Hp) (xs : List V), Ac6 H → Nq K H xs ds → sp xs H (fun v H' => Dw K H' v d0) fun _ _ _ => False)
  (hCX : ∀ H e s', CX [] H s₁ (fun _ _ _ => False) e s' → False) :
  codeAny (model P w) callerA (.call (.ref fa) ⟨vals, []⟩) (fun r s' => ∃ u as, r = .ok (.ret u) ∧ ReadsW R cl s'.heap u d0 as ∧ OldK s₁.heap s'.heap ∧ s'.os = s₁.os ∧ AllBare s'.gens) s₁ := by
 obtain ⟨A, ho, ar⟩ := Qh ds vals hwl hpl hwt;have hO : Ac6 (Nm K s₁.heap A) := Ac5 ar;have hok : HOk P w (Nm K s₁.heap A) s₁.heap := Ai6 ar;have hS := Z6 KX ar ds vals hwl hpl ho;have hV := Ks ho;have hK : ∀ b u, Nm K s₁.heap A b = some u → K.lookup b = none := fun b u q => (Va ar q).1;have noA : ∀ {b : Addr} {o : Obj} {es : Array DictEntry} {ep : Nat}, s₁.heap.get? b = some o → o.data = .dict es ep → Nm K s₁.heap A b = none := fun {b o es ep} e d => by
  cases q : Nm K s₁.heap A b with
  | none => rfl
  | some u =>
   obtain ⟨_, vs, _, _, ⟨e2, _⟩ | ⟨e2, _⟩⟩ := Va ar q
   ·rw [e2] at e
    cases e
    have d' : Data.seq vs.toArray _ = Data.dict es ep := d
    cases d'
   ·rw [e2] at e
    cases e
    have d' : Data.seq vs.toArray _ = Data.dict es ep := d
    cases d'
 generalize Nm K s₁.heap A = H at hO hok hS hK noA;have base_of : ∀ {b : Addr} {o : Obj}, s₁.heap.get? b = some o → H b = none → (Aak s₁.heap H).get? b = some o := fun e n => Aey e n;have nsK : ∀ {b : Addr} {m : Str → Option Value}, s₁.heap.Ns b m → (Aak s₁.heap H).Ns b m := fun {b m} ⟨o, es, ep, e, d, r⟩ => ⟨o, es, ep, base_of e (noA e d), d, r⟩;have nK : ∀ b o, K.lookup b = some o → H b = none := fun b o e => by
  cases q : H b with
  | none => rfl
  | some u =>
   rw [hK b u q] at e
   cases e
 have hKb : K.In (Aak s₁.heap H) := fun b o e => base_of (KX b o e) (nK b o e);have hM : Mod K mg (Aak s₁.heap H) := ⟨hKb, nsK hns, ⟨mb, nsK hb, hbb⟩, let ⟨mc, h1, h2⟩ := hlim; ⟨mc, nsK h1, h2⟩⟩;have e0 : Aab P w K mg (Aak s₁.heap H) callerA [] s₁ H := ⟨rfl, hM, fun b o e => Ahg e, Ot (Abv _ _), trivial, fun b hb => absurd (show b ∈ ([] : List Addr) from hb) (by simp), hok, .of_eq hg⟩;have hl : vals.length = ps.length := by rw [Jm hwl]; exact hlen
 refine codeAny_mono ((F _ hKb (nsK hns)).run callerA [] s₁ H ⟨vals, []⟩ vals (vals.map toV) _ _ hr e0 (hbind s₁ vals hl) hV (hsp H _ hO hS)) fun r s' x => ?_
 cases r with
 | error e => exact (hCX H e s' x).elim
 | ok fl =>
  cases fl with
  | next => exact Dn x
  | brk => exact Dn x
  | cont => exact Dn x
  | ret u =>
   obtain ⟨v, H', os, bare, un, hok', r', q⟩ := x;have kept : ∀ b o, s₁.heap.get? b = some o → s'.heap.get? b = some o := fun b o e => by
    cases q2 : H b with
    | none => exact un.keep b o e q2 (by intro z; exact absurd (show b ∈ ([] : List Addr) from z) (by simp)) (by simp)
    | some u2 =>
     rcases hO b with z | ⟨ob, u3, z⟩
     ·rw [q2] at z
      cases z
     ·have z2 := un.frzs b ob _ z;obtain ⟨e1, _⟩ := hok b _ z;obtain ⟨e2, _⟩ := hok' b _ z2;rw [e] at e1
      cases e1
      exact e2
   have KX' : K.In s'.heap := fun b o e => kept b o (KX b o e);obtain ⟨as, hrd⟩ := Dw.reads (R := R) (cl := cl) hok' KX' d0 v u q r';exact ⟨u, as, rfl, hrd, OldK.of_keep kept, os, bare⟩
theorem Qb {ds : List WData} (h : WData.layableAll ds = true) : ∀ d ∈ ds, d.weight ≤ 1048576 := fun d hd =>
 (PySem.W.layableW_iff.mp (Fl.mp h d hd)).2.2
theorem S9 : ∀ (cs : List Codec) (a : Codec.denoteAll cs), (Codec.encAll cs a).length = cs.length
 | [], _ => rfl
 | c :: cs, a => by
  show (Codec.encAll cs a.2).length + 1 = cs.length + 1;rw [S9 cs a.2]
theorem Aat {r : OpenSpec} {k : Nat} {q : Program} {loose : List Str} {XP : (Str → Option Value) → Heap → Prop} {YP : World → Heap → Prop} {d : DefRec} {K : Params → Ad} {CX : World → CXT} {ps : List Str} {sp : World → Sp}
  (hwell : r.wellSaid = true) (hdf : d.params.defaults = []) (hlen : r.args.length = ps.length) (hr : Fx k callerA)
  (hY : ∀ (w : World) (h : Heap), YP w h → (K w.params).In h)
  (F : ∀ (w : World) (mg : Str → Option Value) (fa : Addr) (h : Heap), YP w h → (K w.params).In h → h.Ns mainGlobals mg → mg d.name = some (.ref fa) →
   ∃ fd : FuncData, (∀ (s : Shared) (us : List Value), us.length = ps.length → BindsTo s fd ⟨us, []⟩ (ps.zip us)) ∧
    ∀ base : Heap, (K w.params).In base → base.Ns mainGlobals mg → Hu r.prog w (K w.params) mg base (CX w) k fa fd ps (sp w))
  (hsp : ∀ (w : World) (H : Hp) (xs : List V) (a : Codec.denoteAll r.args), Ac6 H → Codec.withinAll r.args a = true → Codec.app r.args r.asked a = true → Nq (K w.params) H xs (Codec.encAll r.args a) →
   sp w xs H (fun v H' => Dw (K w.params) H' v (r.ret.enc (Codec.app r.args r.f a))) fun _ _ _ => False)
  (hCX : ∀ (w : World) (H : Hp) (s : Shared) (e : Value) (s' : Shared), CX w [] H s (fun _ _ _ => False) e s' → False) :
  PySem.W.WalkOS q loose XP YP r d [] (fun f vs => PySem.call f vs) := by
 intro w s_0 s₁ mg mb G Y fa o pm cd doc dV kV ho hd hcd hD hmg hg args vals as hpre hlay hrd hwl hlo;obtain ⟨a, e1, e2⟩ := PySem.W.os_pre_some hpre;obtain ⟨e3, hwi⟩ := Codec.encAll_of_decAll r.args args a e1;subst e3;have KX := hY w _ Y;obtain ⟨fd, hb, hF⟩ := F w mg fa _ Y KX G.T.g hmg;refine PySem.W.enter_call (codeAny_mono (Aay (R := []) (cl := classAt s_0.heap) (d0 := r.ret.enc (Codec.app r.args r.f a)) KX G.T.g G.T.b G.T.builtins G.T.nolimit hg hwl (V8 _ _) (Qb hlay) hr hF hb (by rw [S9]; exact hlen)
  (fun H xs hO hS => hsp w H xs a hO hwi e2 hS) fun H e s' => hCX w H s₁ e s') fun r' s' hq => ?_)
 obtain ⟨u, as', rfl, h1, h2, h3, h4⟩ := hq;exact ⟨.inl ⟨u, _, as', rfl, fun _ => rfl, h1, (OpenSpec.post_iff hwell hwi _ _).mpr rfl, fun z => Dc (show false = true from z)⟩, h2, h3, h4⟩
theorem walk_specK {r : OpenSpec} {k : Nat} {q : Program} {loose : List Str} {XP : (Str → Option Value) → Heap → Prop} {YP : World → Heap → Prop} {d : DefRec} {K : Params → Ad} {CX : CXT} {ps : List Str} {sp : Ad → Sp}
  (hwell : r.wellSaid = true) (hdf : d.params.defaults = []) (hlen : r.args.length = ps.length) (hr : Fx k callerA)
  (hY : ∀ (w : World) (h : Heap), YP w h → (K w.params).In h)
  (F : ∀ (w : World) (mg : Str → Option Value) (fa : Addr) (h : Heap), YP w h → (K w.params).In h → h.Ns mainGlobals mg → mg d.name = some (.ref fa) →
   ∃ fd : FuncData, (∀ (s : Shared) (us : List Value), us.length = ps.length → BindsTo s fd ⟨us, []⟩ (ps.zip us)) ∧
    ∀ base : Heap, (K w.params).In base → base.Ns mainGlobals mg → Hu r.prog w (K w.params) mg base CX k fa fd ps (sp (K w.params)))
  (hsp : ∀ (K : Ad) (H : Hp) (xs : List V) (a : Codec.denoteAll r.args), Ac6 H → Codec.withinAll r.args a = true → Codec.app r.args r.asked a = true → Nq K H xs (Codec.encAll r.args a) →
   sp K xs H (fun v H' => Dw K H' v (r.ret.enc (Codec.app r.args r.f a))) fun _ _ _ => False)
  (hCX : ∀ (H : Hp) (s : Shared) (e : Value) (s' : Shared), CX [] H s (fun _ _ _ => False) e s' → False) :
  PySem.W.WalkOS q loose XP YP r d [] (fun f vs => PySem.call f vs) :=
 Aat (K := K) (CX := fun _ => CX) (sp := fun w => sp (K w.params)) hwell hdf hlen hr hY F (fun w H xs a h1 h2 h3 h4 => hsp (K w.params) H xs a h1 h2 h3 h4) fun _ H s e s' => hCX H s e s'
end L2
end
namespace AT
open Vbdlah
def Fd (x : Kind) (u : Up) : Nat := if u.acked = true then (if x.cond = true then x.again else 0) else (if u.rank < 3 then x.escalate else 0)
def due (c : Nat) (x : Kind) : Option Nat := match x.up with
 | some u => if 0 < Fd x u then some (max 1 (Fd x u - u.wait)) else none
 | none => if x.cond = true then some (max 1 (max c x.shelf + (x.delay - x.held) - c)) else none
def count (c d : Nat) (x : Kind) : Kind := match x.up with
 | some u => if 0 < Fd x u then { x with up := some { u with wait := u.wait + d } } else x
 | none => if x.cond = true then { x with held := x.held + (c + d - max c x.shelf) } else x
def deed (s : St) (k : Nat) (z : Kind) : St := match z.up with
 | none => raise s k z
 | some u => if u.acked = true then loud (say (put s k { z with up := some { u with acked := false, wait := 0 } }) k 2 u.rank) u.rank
  else loud (say (put s k { z with up := some { u with rank := u.rank + 1, wait := 0 } }) k 1 (u.rank + 1)) (u.rank + 1)
def adv (s : St) (d : Nat) : St := lapse { s with now := s.now + d, kinds := s.kinds.map (count s.now d) }
theorem Y7 {s : St} {k : Nat} {x : Kind} (h : s.kinds[k]? = some x) : put s k x = s := by
 unfold put;have : s.kinds.set k x = s.kinds := by
  apply Hn
  intro i
  by_cases e : i = k
  ·subst e;rw [Bm (Af.mp h).1, h]
  ·rw [Bh (fun q => e q.symm)]
 rw [this]
theorem Im (s : St) (k : Nat) (x y : Kind) : put (put s k x) k y = put s k y := by
 unfold put; simp
theorem Ug (s : St) {j k : Nat} (h : j ≠ k) (x y : Kind) : put (put s j x) k y = put (put s k y) j x := by
 unfold put;simp only;rw [List.set_comm _ _ h]
theorem Lo (s : St) (k : Nat) (x : Kind) (j w r : Nat) : say (put s k x) j w r = put (say s j w r) k x := by
 unfold say put
 cases s.log with
 | nil => rfl
 | cons h t =>
  simp only
  split <;> rfl
theorem Ni (s : St) (k : Nat) (x : Kind) (r : Nat) : loud (put s k x) r = put (loud s r) k x := by
 obtain ⟨ks, ln, nw, sq, si, fi, lg, ba⟩ := s;unfold loud put
 cases si with
 | none => rfl
 | some p =>
  obtain ⟨a, l⟩ := p;simp only
  split <;> rfl
theorem Ab6 (s : St) {j k : Nat} (h : j ≠ k) (x z : Kind) : raise (put s k z) j x = put (raise s j x) k z := by
 have e : raise (put s k z) j x = loud (say { put (put s k z) j { x with held := 0, up := some ⟨s.seq, x.rank, false, 0⟩ } with first := if s.first = none then some j else s.first } j 0 x.rank) x.rank := rfl;rw [e, Ug _ h.symm];have e2 : { put (put s j { x with held := 0, up := some ⟨s.seq, x.rank, false, 0⟩ }) k z with first := if s.first = none then some j else s.first } = put { put s j { x with held := 0, up := some ⟨s.seq, x.rank, false, 0⟩ } with first := if s.first = none then some j else s.first } k z := rfl;rw [e2, Lo, Ni];rfl
theorem Af8 (s : St) {j k : Nat} (h : j ≠ k) (x z : Kind) : deed (put s k z) j x = put (deed s j x) k z := by
 unfold deed
 cases x.up with
 | none => exact Ab6 s h x z
 | some u =>
  simp only
  split
  ·rw [Ug _ h.symm, Lo, Ni]
  ·rw [Ug _ h.symm, Lo, Ni]
theorem Ff (s : St) (j w r : Nat) : (say s j w r).kinds = s.kinds := by
 unfold say
 cases s.log with
 | nil => rfl
 | cons h t => simp only; split <;> rfl
theorem Yd (s : St) (j w r : Nat) : (say s j w r).now = s.now := by
 unfold say
 cases s.log with
 | nil => rfl
 | cons h t => simp only; split <;> rfl
theorem Oc (s : St) (r : Nat) : (loud s r).kinds = s.kinds := by
 unfold loud
 cases s.silence with
 | none => rfl
 | some p => obtain ⟨a, l⟩ := p; simp only; split <;> rfl
theorem Zp (s : St) (r : Nat) : (loud s r).now = s.now := by
 unfold loud
 cases s.silence with
 | none => rfl
 | some p => obtain ⟨a, l⟩ := p; simp only; split <;> rfl
theorem Xc (s : St) (k : Nat) (x : Kind) : (raise s k x).kinds = s.kinds.set k { x with held := 0, up := some ⟨s.seq, x.rank, false, 0⟩ } := by
 unfold raise;rw [Oc, Ff];rfl
theorem Ab7 (s : St) (k : Nat) (x : Kind) : (raise s k x).now = s.now := by
 unfold raise;rw [Zp, Yd];rfl
theorem Af9 (s : St) (k : Nat) (x : Kind) : (deed s k x).now = s.now := by
 unfold deed
 cases x.up with
 | none => exact Ab7 s k x
 | some u => simp only; split <;> (rw [Zp, Yd]; rfl)
theorem Aa0 (s : St) {j k : Nat} (h : j ≠ k) (x : Kind) : (deed s k x).kinds[j]? = s.kinds[j]? := by
 unfold deed
 cases x.up with
 | none =>
  show (raise s k x).kinds[j]? = _;rw [Xc, Bh h.symm]
 | some u => simp only; split <;> (rw [Oc, Ff]; show (s.kinds.set k _)[j]? = _; rw [Bh h.symm])
theorem Aa4 (c : Nat) (x : Kind) : count c 0 x = x := by
 unfold count
 split
 ·rename_i u e
  split
  ·cases x; simp only at e; subst e; rfl
  ·rfl
 ·split
  ·have : c + 0 - max c x.shelf = 0 := by omega
   rw [this];rfl
  ·rfl
theorem Jj {c d : Nat} {x : Kind} (h : x.up = none) (hc : x.cond = true) : count c d x = { x with held := x.held + (c + d - max c x.shelf) } := by
 unfold count; rw [h]; simp [hc]
theorem Nk {c d : Nat} {x : Kind} (h : x.up = none) (hc : ¬ x.cond = true) : count c d x = x := by
 unfold count; rw [h]; simp [hc]
theorem U8 {c d : Nat} {x : Kind} {u : Up} (h : x.up = some u) (hl : 0 < Fd x u) : count c d x = { x with up := some { u with wait := u.wait + d } } := by
 unfold count; rw [h]; simp [hl]
theorem Jz {c d : Nat} {x : Kind} {u : Up} (h : x.up = some u) (hl : ¬ 0 < Fd x u) : count c d x = x := by
 unfold count; rw [h]; simp [hl]
theorem W5 {s : St} {k c d : Nat} {x : Kind} (hn : s.now = c + d) (hd : 1 ≤ d) (hk : s.kinds[k]? = some (count c (d - 1) x)) (hg : ∀ n, due c x = some n → d ≤ n) :
  secondOf s k = if due c x = some d then deed (put s k (count c d x)) k (count c d x) else put s k (count c d x) := by
 unfold secondOf;rw [hk];simp only
 cases hu : x.up with
 | none =>
  by_cases hc : x.cond = true
  ·have hdue : due c x = some (max 1 (max c x.shelf + (x.delay - x.held) - c)) := by unfold due; rw [hu]; simp [hc]
   have hle := hg _ hdue;rw [Jj hu hc, Jj hu hc, hdue];simp only [hu, hc, if_true];have hcond : (x.shelf ≤ s.now ∧ x.delay ≤ (if x.shelf < s.now then x.held + (c + (d - 1) - max c x.shelf) + 1 else x.held + (c + (d - 1) - max c x.shelf))) ↔ max 1 (max c x.shelf + (x.delay - x.held) - c) = d := by
    rw [hn]
    constructor
    ·rintro ⟨h1, h2⟩
     split at h2 <;> omega
    ·intro h
     constructor
     ·omega
     ·split <;> omega
   by_cases hq : max 1 (max c x.shelf + (x.delay - x.held) - c) = d
   ·rw [if_pos (hcond.mpr hq), if_pos (by rw [hq])];unfold deed;simp only [hu];rw [show raise (put s k { x with cond := true, held := x.held + (c + d - max c x.shelf), up := none }) k { x with cond := true, held := x.held + (c + d - max c x.shelf), up := none } = raise s k { x with cond := true, held := x.held + (c + d - max c x.shelf), up := none } from ?_]
    ·rfl
    ·unfold raise; simp only; rw [Im]; rfl
   ·rw [if_neg (fun h => hq (hcond.mp h)), if_neg (fun h => hq (Ah h))];have : (if x.shelf < s.now then x.held + (c + (d - 1) - max c x.shelf) + 1 else x.held + (c + (d - 1) - max c x.shelf)) = x.held + (c + d - max c x.shelf) := by
     rw [hn]; split <;> omega
    rw [this]
  ·have hdue : due c x = none := by unfold due; rw [hu]; simp [hc]
   have hs : put s k x = s := Y7 (by rw [hk, Nk hu hc]);rw [Nk hu hc, Nk hu hc, hdue, hs];simp [hu, hc]
 | some u =>
  by_cases hl : 0 < Fd x u
  ·have hdue : due c x = some (max 1 (Fd x u - u.wait)) := by unfold due; rw [hu]; simp [hl]
   have hle := hg _ hdue;rw [U8 hu hl, U8 hu hl, hdue];simp only;unfold Fd at hl hle;unfold Fd
   by_cases ha : u.acked = true
   ·simp only [ha, if_true] at hl hle ⊢
    by_cases hc : x.cond = true
    ·simp only [hc, if_true] at hl hle ⊢;rw [if_neg (by simp), if_pos ⟨hl, trivial⟩]
     by_cases hq : max 1 (x.again - u.wait) = d
     ·rw [if_pos (by omega), if_pos (by rw [hq])];unfold deed;simp only [if_true];rw [Im]
     ·rw [if_neg (by omega), if_neg (fun h => hq (Ah h))];have : u.wait + (d - 1) + 1 = u.wait + d := by omega
      rw [this]
    ·simp [hc] at hl
   ·simp only [ha] at hl hle ⊢
    by_cases hr : u.rank < 3
    ·simp only [hr, if_true] at hl hle ⊢;simp only [D0, if_false] at hl hle ⊢;rw [if_pos (⟨hl, trivial⟩ : 0 < x.escalate ∧ True)]
     by_cases hq : max 1 (x.escalate - u.wait) = d
     ·rw [if_pos (by omega), if_pos (by rw [hq])];unfold deed;simp only [D0, if_false];rw [Im]
     ·rw [if_neg (by omega), if_neg (fun h => hq (Ah h))];have : u.wait + (d - 1) + 1 = u.wait + d := by omega
      rw [this]
    ·simp [hr] at hl
  ·have hdue : due c x = none := by unfold due; rw [hu]; simp [hl]
   have hs : put s k x = s := Y7 (by rw [hk, Jz hu hl]);rw [Jz hu hl, Jz hu hl, hdue, if_neg (show ¬ (none : Option Nat) = some d from fun h => nomatch h), hs];simp only [hu];unfold Fd at hl
   by_cases ha : u.acked = true
   ·simp only [ha, if_true] at hl ⊢
    by_cases hc : x.cond = true
    ·simp only [hc, if_true] at hl ⊢;simp [hl]
    ·simp [hc]
   ·simp only [ha] at hl ⊢
    by_cases hr : u.rank < 3
    ·simp only [hr, if_true, D0, if_false] at hl ⊢;simp [hl]
    ·simp [hr]
def turn (xs : List Kind) (c d : Nat) (s : St) (k : Nat) : St := match xs[k]? with
 | none => s
 | some x => if due c x = some d then deed s k (count c d x) else s
def cnt (xs : List Kind) (c d : Nat) (s : St) (k : Nat) : St := match xs[k]? with
 | none => s
 | some x => put s k (count c d x)
theorem Adu (xs : List Kind) (c d : Nat) (s : St) {j k : Nat} (h : j ≠ k) : turn xs c d (cnt xs c d s k) j = cnt xs c d (turn xs c d s j) k := by
 unfold turn cnt
 cases xs[j]? with
 | none => rfl
 | some x =>
  cases xs[k]? with
  | none => rfl
  | some y =>
   simp only
   split
   ·exact Af8 s h _ _
   ·rfl
theorem Sj (xs : List Kind) (c d : Nat) (s : St) {j k : Nat} (h : j ≠ k) : (turn xs c d s k).kinds[j]? = s.kinds[j]? := by
 unfold turn
 cases xs[k]? with
 | none => rfl
 | some x =>
  simp only
  split
  ·exact Aa0 s h _
  ·rfl
theorem Yp (xs : List Kind) (c d : Nat) (s : St) (k : Nat) : (turn xs c d s k).now = s.now := by
 unfold turn
 cases xs[k]? with
 | none => rfl
 | some x =>
  simp only
  split
  ·exact Af9 s k _
  ·rfl
theorem Ac2 (xs : List Kind) (c d : Nat) (s : St) {j k : Nat} (h : j ≠ k) : (cnt xs c d s k).kinds[j]? = s.kinds[j]? := by
 unfold cnt
 cases xs[k]? with
 | none => rfl
 | some x => exact Bh h.symm
theorem Ai1 (xs : List Kind) (c d : Nat) (s : St) (k : Nat) : (cnt xs c d s k).now = s.now := by
 unfold cnt
 cases xs[k]? with
 | none => rfl
 | some x => rfl
theorem Qe (xs : List Kind) (c d : Nat) (hd : 1 ≤ d) (hg : ∀ x ∈ xs, ∀ n, due c x = some n → d ≤ n) : ∀ (l : List Nat) (s : St), l.Nodup → s.now = c + d → (∀ k ∈ l, ∃ x, xs[k]? = some x ∧ s.kinds[k]? = some (count c (d - 1) x)) →
  l.foldl secondOf s = l.foldl (turn xs c d) (l.foldl (cnt xs c d) s)
 | [], s, _, _, _ => rfl
 | k :: l, s, nd, hn, hl => by
  obtain ⟨hk, nd⟩ := Bt.mp nd;obtain ⟨x, hx, hs⟩ := hl k A0;have e1 : secondOf s k = turn xs c d (cnt xs c d s k) k := by
   rw [W5 hn hd hs (hg x (As hx))];unfold turn cnt;rw [hx]
  have e2 : ∀ (l : List Nat) (s : St), k ∉ l → l.foldl (cnt xs c d) (turn xs c d s k) = turn xs c d (l.foldl (cnt xs c d) s) k := by
   intro l
   induction l with
   | nil => intro s _; rfl
   | cons j l ih =>
    intro s h;have h1 : k ≠ j := fun e => h (by rw [e]; exact A0);rw [Cu, Cu, ← Adu xs c d s h1];exact ih _ fun z => h (Am _ z)
  rw [Cu, e1, Qe xs c d hd hg l _ nd (by rw [Yp, Ai1]; exact hn) ?_, Cu, Cu]
  ·rw [e2 l _ hk]
  ·intro j hj;obtain ⟨y, hy, hs'⟩ := hl j (Am _ hj);have h1 : j ≠ k := fun e => hk (by rw [← e]; exact hj);exact ⟨y, hy, by rw [Sj _ _ _ _ h1, Ac2 _ _ _ _ h1]; exact hs'⟩
theorem Ly (xs : List Kind) (c d : Nat) : ∀ (n : Nat) (s : St), n ≤ xs.length → s.kinds.length = xs.length → (Be n).foldl (cnt xs c d) s = { s with kinds := (xs.take n).map (count c d) ++ s.kinds.drop n }
 | 0, s, _, _ => by simp
 | n + 1, s, h, hl => by
  rw [Fc, Eo, Ly xs c d n s (by omega) hl, Cu, Ko];unfold cnt;have hx : xs[n]? = some xs[n] := Aq (by omega);rw [hx];unfold put;simp only
  congr 1
  have hlen : ((xs.take n).map (count c d)).length = n := by rw [Ac, Cg]; omega
  have hdrop : s.kinds.drop n = s.kinds[n] :: s.kinds.drop (n + 1) := by rw [List.drop_eq_getElem_cons]
  rw [hdrop, List.set_append_right _ _ (by rw [hlen]; exact Ak _), hlen, Oq, List.set_cons_zero];have ht : xs.take (n + 1) = xs.take n ++ [xs[n]] := by rw [Ce, hx]; rfl
  rw [ht, Bb, Ho];rfl
theorem Gv (s : St) : (lapse s).kinds = s.kinds := by
 obtain ⟨ks, ln, nw, sq, si, fi, lg, ba⟩ := s;unfold lapse
 cases si with
 | none => rfl
 | some p => obtain ⟨a, l⟩ := p; simp only; split <;> rfl
theorem Q1 (s : St) : (lapse s).now = s.now := by
 obtain ⟨ks, ln, nw, sq, si, fi, lg, ba⟩ := s;unfold lapse
 cases si with
 | none => rfl
 | some p => obtain ⟨a, l⟩ := p; simp only; split <;> rfl
theorem Zu (s : St) (ks : List Kind) : { lapse s with kinds := ks } = lapse { s with kinds := ks } := by
 obtain ⟨ks', ln, nw, sq, si, fi, lg, ba⟩ := s;unfold lapse
 cases si with
 | none => rfl
 | some p => obtain ⟨a, l⟩ := p; simp only; split <;> rfl
theorem Xo (s : St) (n : Nat) (ks : List Kind) (h : s.now ≤ n) : lapse { lapse s with now := n, kinds := ks } = lapse { s with now := n, kinds := ks } := by
 obtain ⟨ks', ln, nw, sq, si, fi, lg, ba⟩ := s;unfold lapse
 cases si with
 | none => rfl
 | some p =>
  obtain ⟨a, l⟩ := p;simp only at h ⊢
  by_cases h1 : a ≤ nw
  ·rw [if_pos h1, if_pos (show a ≤ n by omega)]
  ·rw [if_neg h1]
theorem Zv (t : St) (n : Nat) : ({ lapse t with now := n } : St) = { lapse t with now := n, kinds := t.kinds } := by
 conv => rhs; rw [← Gv t]
theorem So {s : St} {d : Nat} (hd : 1 ≤ d) (hg : ∀ x ∈ s.kinds, ∀ n, due s.now x = some n → d ≤ n) :
  second (adv s (d - 1)) = (numbers s).foldl (turn s.kinds s.now d) (adv s d) := by
 have e0 : lapse { adv s (d - 1) with now := (adv s (d - 1)).now + 1 } = lapse { s with now := s.now + d, kinds := s.kinds.map (count s.now (d - 1)) } := by
  have h1 : (adv s (d - 1)).now = s.now + (d - 1) := Q1 _;rw [h1, show s.now + (d - 1) + 1 = s.now + d by omega];have := Xo { s with now := s.now + (d - 1), kinds := s.kinds.map (count s.now (d - 1)) } (s.now + d) (s.kinds.map (count s.now (d - 1))) (by show s.now + (d - 1) ≤ _; omega);refine C5 ?_ this;show lapse { lapse { s with now := s.now + (d - 1), kinds := s.kinds.map (count s.now (d - 1)) } with now := s.now + d } = _;rw [Zv]
 unfold second;simp only;rw [e0];have hnum : numbers (lapse { s with now := s.now + d, kinds := s.kinds.map (count s.now (d - 1)) }) = numbers s := by
  unfold numbers;rw [Gv];simp
 rw [hnum, Qe s.kinds s.now d hd hg (numbers s) _ List.nodup_range (Q1 _) ?_]
 ·congr 1
  unfold numbers;rw [Ly s.kinds s.now d s.kinds.length _ (Ak _) (by rw [Gv]; simp)];rw [Cf, List.drop_eq_nil_of_le (by rw [Gv]; simp), B8, Zu];rfl
 ·intro k hk;have hk' : k < s.kinds.length := Cp.mp hk;refine ⟨s.kinds[k], Aq hk', ?_⟩;rw [Gv];simp [hk']
theorem Wh (xs : List Kind) (c d : Nat) (hg : ∀ x ∈ xs, ¬ due c x = some d) : ∀ (l : List Nat) (s : St), l.foldl (turn xs c d) s = s
 | [], s => rfl
 | k :: l, s => by
  have : turn xs c d s k = s := by
   unfold turn
   cases e : xs[k]? with
   | none => rfl
   | some x => simp only; rw [if_neg (hg x (As e))]
  rw [Cu, this];exact Wh xs c d hg l s
theorem Ig (n : Nat) : ∀ (s : St), seconds (n + 1) s = second (seconds n s) := by
 induction n with
 | zero => intro s; rfl
 | succ n ih => intro s; rw [seconds, ih (second s), ← seconds]
theorem W0 (a b : Nat) (s : St) : seconds (a + b) s = seconds b (seconds a s) := by
 induction b with
 | zero => rfl
 | succ b ih => rw [← Nat.add_assoc, Ig, ih, ← Ig]
def Ac8 (s : St) : Prop := ∀ u l, s.silence = some (u, l) → s.now < u
theorem Afd {s : St} (h : Ac8 s) : adv s 0 = s := by
 obtain ⟨ks, ln, nw, sq, si, fi, lg, ba⟩ := s;unfold adv;have e : ks.map (count nw 0) = ks := by
  rw [show count nw 0 = id from funext (Aa4 nw), List.map_id]
 simp only [Nat.add_zero];rw [e];unfold lapse
 cases si with
 | none => rfl
 | some p =>
  obtain ⟨a, l⟩ := p;have := h a l rfl;simp only at this ⊢;rw [if_neg (by omega)]
theorem Md {s : St} (hf : Ac8 s) : ∀ (d : Nat), (∀ x ∈ s.kinds, ∀ n, due s.now x = some n → d < n) → seconds d s = adv s d
 | 0, _ => (Afd hf).symm
 | d + 1, hg => by
  rw [Ig, Md hf d (fun x hx n hn => by have := hg x hx n hn; omega)];have := So (s := s) (d := d + 1) (by omega) (fun x hx n hn => by have := hg x hx n hn; omega);rw [Nat.add_sub_cancel] at this;rw [this, Wh];intro x hx e;have := hg x hx _ e;omega
theorem Tu {s : St} (hf : Ac8 s) {d : Nat} (hd : 1 ≤ d) (hg : ∀ x ∈ s.kinds, ∀ n, due s.now x = some n → d ≤ n) : seconds d s = (numbers s).foldl (turn s.kinds s.now d) (adv s d) := by
 have h1 := Md hf (d - 1) (fun x hx n hn => by have := hg x hx n hn; omega);have h2 : seconds d s = second (seconds (d - 1) s) := by
  rw [← Ig]; congr 1; omega
 rw [h2, h1];exact So hd hg
inductive Bef (ln : List (Nat × Nat)) : Nat → Nat → Prop where
 | one {a b : Nat} : (a, b) ∈ ln → Bef ln a b
 | more {a c b : Nat} : (a, c) ∈ ln → Bef ln c b → Bef ln a b
theorem Bef.trans {ln : List (Nat × Nat)} {a b c : Nat} (h1 : Bef ln a b) (h2 : Bef ln b c) : Bef ln a c := by
 induction h1 with
 | one h => exact .more h h2
 | more h _ ih => exact .more h (ih h2)
theorem Bef.mono {ln ln' : List (Nat × Nat)} (hs : ∀ p ∈ ln, p ∈ ln') {a b : Nat} (h : Bef ln a b) : Bef ln' a b := by
 induction h with
 | one h => exact .one (hs _ h)
 | more h _ ih => exact .more (hs _ h) ih
def Gd (ln : List (Nat × Nat)) : Prop := ∀ x, ¬ Bef ln x x
def Kj (ln : List (Nat × Nat)) (n : Nat) : Prop := ∀ a b, (a, b) ∈ ln → a < n ∧ b < n
theorem Bef.left {ln : List (Nat × Nat)} {n a b : Nat} (hl : Kj ln n) (h : Bef ln a b) : a < n := by
 cases h with
 | one h => exact (hl _ _ h).1
 | more h _ => exact (hl _ _ h).1
theorem Bef.split {ln : List (Nat × Nat)} {a b x y : Nat} (h : Bef (ln ++ [(a, b)]) x y) : Bef ln x y ∨ ((x = a ∨ Bef ln x a) ∧ (y = b ∨ Bef ln b y)) := by
 induction h with
 | one h =>
  rcases Ba.mp h with h | h
  ·exact .inl (.one h)
  ·cases A9.mp h
   exact .inr ⟨.inl rfl, .inl rfl⟩
 | more h _ ih =>
  rcases Ba.mp h with h' | h
  ·rcases ih with ih | ⟨ih1, ih2⟩
   ·exact .inl (.more h' ih)
   ·refine .inr ⟨.inr ?_, ih2⟩
    rcases ih1 with e | ih1
    ·rw [← e]; exact .one h'
    ·exact .more h' ih1
  ·cases A9.mp h
   rcases ih with ih | ⟨_, ih2⟩
   ·exact .inr ⟨.inl rfl, .inr ih⟩
   ·exact .inr ⟨.inl rfl, ih2⟩
theorem Gd.link {ln : List (Nat × Nat)} {a b : Nat} (h : Gd ln) (hab : a ≠ b) (hb : ¬ Bef ln b a) : Gd (ln ++ [(a, b)]) := by
 intro x hx
 rcases hx.split with hx | ⟨h1, h2⟩
 ·exact h x hx
 ·rcases h1 with h1 | h1
  ·rcases h2 with h2 | h2
   ·exact hab (h1.symm.trans h2)
   ·rw [h1] at h2; exact hb h2
  ·rcases h2 with h2 | h2
   ·rw [h2] at h1; exact hb h1
   ·exact hb (h2.trans h1)
theorem Gd.sub {ln ln' : List (Nat × Nat)} (h : Gd ln') (hs : ∀ p ∈ ln, p ∈ ln') : Gd ln := fun x hx => h x (hx.mono hs)
theorem Sx : ∀ (n : Nat) (l : List Nat), l.length ≤ n → l.eraseDups.Nodup
 | _, [], _ => by simp
 | 0, _ :: _, h => by simp at h
 | n + 1, a :: l, h => by
  rw [List.eraseDups_cons];refine Bt.mpr ⟨?_, Sx n _ ?_⟩
  ·rw [List.mem_eraseDups];simp
  ·have := Cc (fun b => !b == a) l;simp at h;omega
theorem P4 {ln : List (Nat × Nat)} {l : List Nat} {a : Nat} : a ∈ grow ln l ↔ a ∉ l ∧ ∃ b ∈ l, (a, b) ∈ ln := by
 unfold grow;rw [List.mem_eraseDups]
 constructor
 ·intro h;obtain ⟨p, hp, rfl⟩ := Ay.mp h;obtain ⟨h1, h2⟩ := Bn.mp hp;simp at h2;exact ⟨h2.2, p.2, h2.1, h1⟩
 ·rintro ⟨h1, b, h2, h3⟩;exact Ay.mpr ⟨(a, b), Bn.mpr ⟨h3, by simp [h1, h2]⟩, rfl⟩
theorem Zl (ln : List (Nat × Nat)) (l : List Nat) : (grow ln l).Nodup := Sx _ _ (Ak _)
theorem N2 {ln : List (Nat × Nat)} {b : Nat} : ∀ (n : Nat) (l : List Nat), (∀ a ∈ l, a = b ∨ Bef ln a b) → ∀ a ∈ rounds ln n l, a = b ∨ Bef ln a b
 | 0, l, h => h
 | n + 1, l, h => by
  unfold rounds
  cases hg : grow ln l with
  | nil => exact h
  | cons x r =>
   simp only;refine N2 n _ fun a ha => ?_
   rcases Ba.mp ha with ha | ha
   ·exact h a ha
   ·rw [← hg] at ha;obtain ⟨_, c, hc, hl⟩ := P4.mp ha
    rcases h c hc with e | hb
    ·subst e; exact .inr (.one hl)
    ·exact .inr (.more hl hb)
theorem Ss {ln : List (Nat × Nat)} : ∀ (n : Nat) (l : List Nat), ∀ a ∈ l, a ∈ rounds ln n l
 | 0, l, a, h => h
 | n + 1, l, a, h => by
  unfold rounds
  cases hg : grow ln l with
  | nil => exact h
  | cons x r => exact Ss n _ a (C4 _ h)
theorem Mf {ln : List (Nat × Nat)} {N : Nat} (hl : Kj ln N) : ∀ (n : Nat) (l : List Nat), l.Nodup → (∀ a ∈ l, a < N) → N < n + l.length → ∀ a b, (a, b) ∈ ln → b ∈ rounds ln n l → a ∈ rounds ln n l
 | 0, l, nd, hN, hlt => by
  have := C9 nd (l₂ := Be N) fun a ha => Cp.mpr (hN a ha);rw [Ct] at this;omega
 | n + 1, l, nd, hN, hlt => by
  unfold rounds
  cases hg : grow ln l with
  | nil =>
   intro a b hab hb
   by_cases ha : a ∈ l
   ·exact ha
   ·have : a ∈ grow ln l := P4.mpr ⟨ha, b, hb, hab⟩;rw [hg] at this
    cases this
  | cons x r =>
   refine Mf hl n (l ++ (x :: r)) ?_ ?_ ?_
   ·rw [← hg];refine F8.mpr ⟨nd, Zl ln l, fun a ha b hb e => ?_⟩;subst e;exact (P4.mp hb).1 ha
   ·intro a ha
    rcases Ba.mp ha with ha | ha
    ·exact hN a ha
    ·rw [← hg] at ha;obtain ⟨_, c, _, hc⟩ := P4.mp ha;exact (hl _ _ hc).1
   ·rw [A6, A2];omega
theorem Jt {s : St} {a b : Nat} (hl : Kj s.links s.kinds.length) (h32 : s.kinds.length ≤ 32) (hb : b < s.kinds.length) (hc : Gd s.links) : a ∈ befores s b ↔ Bef s.links a b := by
 unfold befores;rw [Bn]
 constructor
 ·rintro ⟨h1, h2⟩
  rcases N2 (b := b) KINDS [b] (fun a ha => .inl (A9.mp ha)) a h1 with e | h
  ·simp [e] at h2
  ·exact h
 ·intro h;refine ⟨?_, ?_⟩
  ·have cl := Mf hl KINDS [b] (by simp) (by simp [hb]) (by show _ < 32 + 1; omega);have hb' : b ∈ rounds s.links KINDS [b] := Ss _ _ b (by simp);clear h32 hb
   induction h with
   | one h => exact cl _ _ h hb'
   | more h _ ih => exact cl _ _ h (ih cl hb')
  ·simp only [bne_iff_ne, ne_eq];intro e;subst e;exact hc _ h
theorem Td {s : St} {a b : Nat} (hl : Kj s.links s.kinds.length) (h32 : s.kinds.length ≤ 32) (hb : b < s.kinds.length) (hc : Gd s.links) : before s a b = true ↔ Bef s.links a b := by
 unfold before;rw [Bv, Jt hl h32 hb hc]
abbrev Mm := List (Nat × List Nat)
def pre (D : Mm) (b : Nat) : List Nat := (D.lookup b).getD []
structure L7 (D : Mm) (ln : List (Nat × Nat)) : Prop where
 keys : (D.map (·.1)).Nodup
 inner : ∀ b l, (b, l) ∈ D → l.Nodup
 iff_ : ∀ a b, a ∈ pre D b ↔ (a, b) ∈ ln
 low : ∀ p ∈ D, p.1 < 32
theorem Pn {D : Mm} (h : (D.map (·.1)).Nodup) {b : Nat} {l : List Nat} (hm : (b, l) ∈ D) : pre D b = l := by
 unfold pre
 induction D with
 | nil => cases hm
 | cons d D ih =>
  obtain ⟨d1, d2⟩ := d;rw [Bc] at h;obtain ⟨h1, h2⟩ := Bt.mp h;rw [D6]
  rcases Az.mp hm with e | hm
  ·cases e
   simp
  ·have ne : ¬ b = d1 := fun e => h1 (Ay.mpr ⟨(b, l), hm, e⟩);rw [show (b == d1) = false by simp [ne]];exact ih h2 hm
theorem V7 {D : Mm} {b : Nat} (h : b ∉ D.map (·.1)) : pre D b = [] := by
 unfold pre
 induction D with
 | nil => rfl
 | cons d D ih =>
  rw [Bc] at h;have ne : ¬ b = d.1 := fun e => h (by rw [e]; exact A0);rw [D6, show (b == d.1) = false by simp [ne]];exact ih fun z => h (Am _ z)
theorem L7.len {D : Mm} {ln : List (Nat × Nat)} (T : L7 D ln) : D.length ≤ 32 := by
 have := C9 T.keys (l₂ := Be 32) fun a ha => by
  obtain ⟨p, hp, rfl⟩ := Ay.mp ha;exact Cp.mpr (T.low p hp)
 rwa [Ac, Ct] at this
theorem L7.addNew {D : Mm} {ln : List (Nat × Nat)} (T : L7 D ln) {a b : Nat} (hb : b ∉ D.map (·.1)) (h32 : b < 32) : L7 (D ++ [(b, [a])]) (ln ++ [(a, b)]) := by
 have k : ((D ++ [(b, [a])]).map (·.1)).Nodup := by
  rw [Bb];exact F8.mpr ⟨T.keys, by simp, fun x hx y hy e => hb (by simp at hy; rw [← hy, ← e]; exact hx)⟩
 refine ⟨k, fun c l h => ?_, fun x y => ?_, fun p hp => ?_⟩
 ·rcases Ba.mp h with h | h
  ·exact T.inner c l h
  ·cases A9.mp h; simp
 ·by_cases e : y = b
  ·subst e;rw [Pn k (Cb _ (by simp) : (y, [a]) ∈ _)];have := T.iff_ x y;rw [V7 hb] at this;simp only [Ba, A9, ← this];simp
  ·have e2 : pre (D ++ [(b, [a])]) y = pre D y := by
    by_cases hy : y ∈ D.map (·.1)
    ·obtain ⟨p, hp, e3⟩ := Ay.mp hy;obtain ⟨p1, p2⟩ := p;simp only at e3;subst e3;rw [Pn T.keys hp, Pn k (C4 _ hp)]
    ·rw [V7 hy, V7];rw [Bb];simp only [Ba];exact fun z => z.elim hy (by simp [e])
   rw [e2, T.iff_];simp [e]
 ·rcases Ba.mp hp with h | h
  ·exact T.low p h
  ·rw [A9.mp h]; exact h32
theorem Ts {D : Mm} {i b : Nat} {l l' : List Nat} (hi : D[i]? = some (b, l)) : (D.set i (b, l')).map (·.1) = D.map (·.1) := by
 apply Hn
 intro j;rw [Ap, Ap]
 by_cases e : j = i
 ·subst e; rw [Bm (Af.mp hi).1, hi]; rfl
 ·rw [Bh (fun z => e z.symm)]
theorem Aaz {D : Mm} {i b : Nat} {l l' : List Nat} (k : (D.map (·.1)).Nodup) (hi : D[i]? = some (b, l)) {y : Nat} (e : y ≠ b) : pre (D.set i (b, l')) y = pre D y := by
 have k' : ((D.set i (b, l')).map (·.1)).Nodup := by rw [Ts hi]; exact k
 by_cases hy : y ∈ D.map (·.1)
 ·obtain ⟨p, hp, e3⟩ := Ay.mp hy;obtain ⟨p1, p2⟩ := p;simp only at e3;subst e3;obtain ⟨j, hj⟩ := B2 hp;have ji : j ≠ i := fun z => by rw [z, hi] at hj; exact e (Prod.mk.inj (Ah hj)).1.symm
  rw [Pn k hp, Pn k' (As (i := j) (by rw [Bh (fun z => ji z.symm)]; exact hj))]
 ·rw [V7 hy, V7 (by rw [Ts hi]; exact hy)]
theorem L7.setAt {D : Mm} {ln ln' : List (Nat × Nat)} (T : L7 D ln) {i b : Nat} {l l' : List Nat} (hi : D[i]? = some (b, l)) (nd : l'.Nodup) (h1 : ∀ x, (x, b) ∈ ln' ↔ x ∈ l') (h2 : ∀ x y, y ≠ b → ((x, y) ∈ ln' ↔ (x, y) ∈ ln)) : L7 (D.set i (b, l')) ln' := by
 have k' : ((D.set i (b, l')).map (·.1)).Nodup := by rw [Ts hi]; exact T.keys
 have hm : (b, l') ∈ D.set i (b, l') := As (Bm (Af.mp hi).1);refine ⟨k', fun c q h => ?_, fun x y => ?_, fun p hp => ?_⟩
 ·rcases Qj h with h | h
  ·exact T.inner c q h
  ·cases h; exact nd
 ·by_cases e : y = b
  ·rw [e, Pn k' hm, h1]
  ·rw [Aaz T.keys hi e, T.iff_, h2 x y e]
 ·rcases Qj hp with h | h
  ·exact T.low p h
  ·rw [h]; exact T.low (b, l) (As hi)
structure Ws (ln : List (Nat × Nat)) (N k : Nat) (f w : List Nat) : Prop where
 nd : f.Nodup
 lt : ∀ a ∈ f, a < N
 bef : ∀ a ∈ f, Bef ln a k
 wf : ∀ a ∈ w, a = k ∨ a ∈ f
 closed : ∀ q, (q = k ∨ q ∈ f) → q ∉ w → ∀ p, (p, q) ∈ ln → p ∈ f
theorem Ws.start (ln : List (Nat × Nat)) (N k : Nat) : Ws ln N k [] [k] := ⟨by simp, by simp, by simp, by simp, by
 intro q hq hw
 rcases hq with e | h
 ·exact absurd (by simp [e]) hw
 ·cases h⟩
theorem Ws.len {ln : List (Nat × Nat)} {N k : Nat} {f w : List Nat} (W : Ws ln N k f w) : f.length ≤ N := by
 have := C9 W.nd (l₂ := Be N) fun a ha => Cp.mpr (W.lt a ha)
 rwa [Ct] at this
structure Mid (ln : List (Nat × Nat)) (N k q : Nat) (seen f w : List Nat) : Prop where
 nd : f.Nodup
 lt : ∀ a ∈ f, a < N
 bef : ∀ a ∈ f, Bef ln a k
 wf : ∀ a ∈ w, a = k ∨ a ∈ f
 got : ∀ a ∈ seen, a ∈ f
 closed : ∀ r, (r = k ∨ r ∈ f) → r ∉ w → r ≠ q → ∀ p, (p, r) ∈ ln → p ∈ f
theorem Ws.mid {ln : List (Nat × Nat)} {N k q : Nat} {f w : List Nat} (W : Ws ln N k f (w ++ [q])) : Mid ln N k q [] f w :=
 ⟨W.nd, W.lt, W.bef, fun a ha => W.wf a (C4 _ ha), by simp, fun r hr hw hq => W.closed r hr (by simp [hw, hq])⟩
theorem Mid.turn {ln : List (Nat × Nat)} {N k q a : Nat} {seen f w : List Nat} (M : Mid ln N k q seen f w) (hl : Kj ln N) (ha : (a, q) ∈ ln) (hq : q = k ∨ q ∈ f) :
  Mid ln N k q (seen ++ [a]) (if a ∈ f then (f, w) else (f ++ [a], w ++ [a])).1 (if a ∈ f then (f, w) else (f ++ [a], w ++ [a])).2 := by
 by_cases h : a ∈ f
 ·rw [if_pos h];refine ⟨M.nd, M.lt, M.bef, M.wf, fun b hb => ?_, M.closed⟩
  rcases Ba.mp hb with hb | hb
  ·exact M.got b hb
  ·rw [A9.mp hb]; exact h
 ·rw [if_neg h];have hbef : Bef ln a k := by
   rcases hq with e | hq
   ·subst e; exact .one ha
   ·exact .more ha (M.bef q hq)
  refine ⟨?_, ?_, ?_, ?_, ?_, ?_⟩
  ·exact F8.mpr ⟨M.nd, by simp, fun b hb c hc e => h (by rw [← A9.mp hc, ← e]; exact hb)⟩
  ·intro b hb
   rcases Ba.mp hb with hb | hb
   ·exact M.lt b hb
   ·rw [A9.mp hb]; exact (hl _ _ ha).1
  ·intro b hb
   rcases Ba.mp hb with hb | hb
   ·exact M.bef b hb
   ·rw [A9.mp hb]; exact hbef
  ·intro b hb
   rcases Ba.mp hb with hb | hb
   ·exact (M.wf b hb).imp id fun z => C4 _ z
   ·rw [A9.mp hb]; exact .inr (by simp)
  ·intro b hb
   rcases Ba.mp hb with hb | hb
   ·exact C4 _ (M.got b hb)
   ·rw [A9.mp hb]; exact Cb _ (by simp)
  ·intro r hr hw hne p hp;have h1 : r ∉ w := fun z => hw (C4 _ z);have h2 : r ≠ a := fun z => hw (by rw [z]; exact Cb _ (by simp));refine C4 _ (M.closed r ?_ h1 hne p hp)
   rcases hr with e | hr
   ·exact .inl e
   ·rcases Ba.mp hr with hr | hr
    ·exact .inr hr
    ·exact absurd (A9.mp hr) h2
theorem Mid.done {ln : List (Nat × Nat)} {N k q : Nat} {seen f w : List Nat} (M : Mid ln N k q seen f w) (hs : ∀ p, (p, q) ∈ ln → p ∈ seen) : Ws ln N k f w :=
 ⟨M.nd, M.lt, M.bef, M.wf, fun r hr hw p hp => by
  by_cases e : r = q
  ·subst e; exact M.got p (hs p hp)
  ·exact M.closed r hr hw e p hp⟩
theorem Ws.done {ln : List (Nat × Nat)} {N k : Nat} {f : List Nat} (W : Ws ln N k f []) : ∀ a, a ∈ f ↔ Bef ln a k := by
 intro a;refine ⟨W.bef a, fun h => ?_⟩
 induction h with
 | one h => exact W.closed _ (.inl rfl) (by simp) _ h
 | more h _ ih => exact W.closed _ (.inr (ih W)) (by simp) _ h
def fin (s : St) : List Row := s.log.foldl told s.base
def Oi (l : List Row) (e : Event) : Prop :=
 (e.what = 0 ∧ ∀ r ∈ l, r.kind ≠ e.kind) ∨ (0 < e.what ∧ e.what ≤ 5 ∧ ∃ r ∈ l, r.kind = e.kind ∧ (e.what = 1 → r.acked = false) ∧ (e.what = 2 ∨ e.what = 3 → r.rank = e.rank))
def J2 (l : List Row) : Prop := (l.map (·.kind)).Nodup
def J3 : List Row → List Event → Prop
 | b, [] => J2 b
 | b, e :: l => J2 b ∧ Oi b e ∧ J3 (told b e) l
def Tn (o : Option Row) (e : Event) : Option Row :=
 if e.what = 0 then some ⟨e.kind, e.seq, e.rank, false⟩
 else if e.what = 1 then o.map fun r => { r with rank := e.rank }
 else if e.what = 2 then o.map fun r => { r with acked := false }
 else if e.what = 3 then o.map fun r => { r with acked := true }
 else none
structure Jd (l : List Row) (f : Nat → Option Row) : Prop where
 uniq : J2 l
 iff_ : ∀ r, r ∈ l ↔ f r.kind = some r
theorem Agm {l : List Row} (h : J2 l) {r q : Row} (hr : r ∈ l) (hq : q ∈ l) (e : r.kind = q.kind) : r = q := by
 induction l with
 | nil => cases hr
 | cons a l ih =>
  unfold J2 at h;rw [Bc] at h;obtain ⟨h1, h2⟩ := Bt.mp h
  rcases Az.mp hr with e1 | hr
  ·rcases Az.mp hq with e2 | hq
   ·rw [e1, e2]
   ·exact absurd (Ay.mpr ⟨q, hq, by rw [← e, e1]⟩) h1
  ·rcases Az.mp hq with e2 | hq
   ·exact absurd (Ay.mpr ⟨r, hr, by rw [e, e2]⟩) h1
   ·exact ih h2 hr hq
theorem Uw {l : List Row} {k : Nat} {g : Row → Row} (hg : ∀ r, (g r).kind = r.kind) : (l.map fun r => if r.kind = k then g r else r).map (·.kind) = l.map (·.kind) := by
 rw [D5]
 apply Iw
 intro r _;show (if r.kind = k then g r else r).kind = r.kind
 split
 ·exact hg r
 ·rfl
theorem Vx {l : List Row} {e : Event} (h : J2 l) (hs : Oi l e) : J2 (told l e) := by
 unfold told
 split
 ·rename_i h0
  rcases hs with ⟨_, hn⟩ | ⟨hp, _⟩
  ·unfold J2;rw [Bb];refine F8.mpr ⟨h, by simp, fun a ha b hb q => ?_⟩;obtain ⟨r, hr, rfl⟩ := Ay.mp ha;simp at hb;exact hn r hr (q.trans hb)
  ·omega
 ·split
  ·unfold J2; rw [Uw (g := fun r => { r with rank := e.rank }) (fun _ => rfl)]; exact h
  ·split
   ·unfold J2; rw [Uw (g := fun r => { r with acked := false }) (fun _ => rfl)]; exact h
   ·split
    ·unfold J2; rw [Uw (g := fun r => { r with acked := true }) (fun _ => rfl)]; exact h
    ·exact Aaq (Afk _ Aai) h
theorem N9 {l : List Row} {f : Nat → Option Row} (h : Jd l f) {k : Nat} {g : Row → Row} (hg : ∀ r, (g r).kind = r.kind) (r : Row) :
  r ∈ (l.map fun r => if r.kind = k then g r else r) ↔ (if r.kind = k then (f k).map g else f r.kind) = some r := by
 rw [Ay]
 constructor
 ·rintro ⟨q, hq, rfl⟩
  by_cases e : q.kind = k
  ·rw [if_pos e, if_pos (show (g q).kind = k by rw [hg]; exact e), ← e, (h.iff_ q).mp hq];rfl
  ·rw [if_neg e, if_neg e];exact (h.iff_ q).mp hq
 ·intro hr
  by_cases e : r.kind = k
  ·rw [if_pos e] at hr
   cases hf : f k with
   | none => rw [hf] at hr; cases hr
   | some q =>
    rw [hf] at hr;have e2 : g q = r := Ah hr;have e3 : q.kind = k := by rw [← hg q, e2]; exact e
    refine ⟨q, (h.iff_ q).mpr (by rw [e3]; exact hf), ?_⟩;rw [if_pos e3]; exact e2
  ·rw [if_neg e] at hr;exact ⟨r, (h.iff_ r).mpr hr, by rw [if_neg e]⟩
theorem Jd.told {l : List Row} {f g : Nat → Option Row} {e : Event} (h : Jd l f) (hs : Oi l e) (hk : g e.kind = Tn (f e.kind) e) (ho : ∀ j, j ≠ e.kind → g j = f j) : Jd (told l e) g := by
 refine ⟨Vx h.uniq hs, fun r => ?_⟩;have hg : g r.kind = if r.kind = e.kind then Tn (f e.kind) e else f r.kind := by
  by_cases q : r.kind = e.kind
  ·rw [if_pos q, q, hk]
  ·rw [if_neg q, ho _ q]
 rw [hg];unfold Ia Tn
 split
 ·rename_i h0;rw [Ba, A9, h.iff_]
  constructor
  ·rintro (hr | hr)
   ·rw [if_neg]
    ·exact hr
    ·intro q
     rcases hs with ⟨_, hn⟩ | ⟨hp, _⟩
     ·exact hn r ((h.iff_ r).mpr hr) q
     ·omega
   ·rw [hr, if_pos rfl]
  ·intro hr
   by_cases q : r.kind = e.kind
   ·rw [if_pos q] at hr; exact .inr (Ah hr).symm
   ·rw [if_neg q] at hr; exact .inl hr
 ·split
  ·exact N9 h (k := e.kind) (g := fun r => { r with rank := e.rank }) (fun _ => rfl) r
  ·split
   ·exact N9 h (k := e.kind) (g := fun r => { r with acked := false }) (fun _ => rfl) r
   ·split
    ·exact N9 h (k := e.kind) (g := fun r => { r with acked := true }) (fun _ => rfl) r
    ·rw [Bn, h.iff_]
     by_cases q : r.kind = e.kind
     ·rw [if_pos q]; simp [q]
     ·rw [if_neg q]; simp [q]
theorem J3.uniq : ∀ {l : List Event} {b : List Row}, J3 b l → J2 b
 | [], _, h => h
 | _ :: _, _, h => h.1
theorem J3.snoc : ∀ {l : List Event} {b : List Row} {e : Event}, J3 b l → Oi (l.foldl told b) e → J3 b (l ++ [e])
 | [], b, e, h, hs => ⟨h, hs, Vx h hs⟩
 | a :: l, b, e, h, hs => ⟨h.1, h.2.1, J3.snoc h.2.2 hs⟩
theorem Ahw (s : St) (k w r : Nat) : fin (say s k w r) = told (fin s) ⟨s.seq, s.now, k, w, r⟩ := by
 obtain ⟨ks, ln, nw, sq, si, fi, lg, ba⟩ := s;unfold fin say
 cases lg with
 | nil => rfl
 | cons h t =>
  simp only
  split
  ·rw [Eo]; rfl
  ·rw [Eo]; rfl
theorem Aho {s : St} {k w r : Nat} (h : J3 s.base s.log) (hs : Oi (fin s) ⟨s.seq, s.now, k, w, r⟩) : J3 (say s k w r).base (say s k w r).log := by
 obtain ⟨ks, ln, nw, sq, si, fi, lg, ba⟩ := s;unfold say
 cases lg with
 | nil => exact J3.snoc (l := []) h hs
 | cons a t =>
  simp only
  split
  ·exact J3.snoc h hs
  ·exact J3.snoc h.2.2 hs
theorem Agy {s : St} {k w r : Nat} (h : s.log.length ≤ 64) : (say s k w r).log.length ≤ 64 := by
 obtain ⟨ks, ln, nw, sq, si, fi, lg, ba⟩ := s;unfold say
 cases lg with
 | nil => simp
 | cons a t =>
  simp only
  split
  ·rename_i h1;have : (a :: t).length < 64 := h1;simp at this ⊢;omega
  ·simp at h ⊢;omega
theorem Ln (s : St) (k w r : Nat) : (say s k w r).seq = s.seq + 1 := by
 obtain ⟨ks, ln, nw, sq, si, fi, lg, ba⟩ := s;unfold say
 cases lg with
 | nil => rfl
 | cons a t => simp only; split <;> rfl
theorem V3 (s : St) (k w r : Nat) : (say s k w r).links = s.links := by
 obtain ⟨ks, ln, nw, sq, si, fi, lg, ba⟩ := s;unfold say
 cases lg with
 | nil => rfl
 | cons a t => simp only; split <;> rfl
theorem Ab5 (s : St) (k w r : Nat) : (say s k w r).first = s.first := by
 obtain ⟨ks, ln, nw, sq, si, fi, lg, ba⟩ := s;unfold say
 cases lg with
 | nil => rfl
 | cons a t => simp only; split <;> rfl
theorem W8 (s : St) (k w r : Nat) : (say s k w r).silence = s.silence := by
 obtain ⟨ks, ln, nw, sq, si, fi, lg, ba⟩ := s;unfold say
 cases lg with
 | nil => rfl
 | cons a t => simp only; split <;> rfl
theorem Qz (s : St) (r : Nat) : ∃ si, loud s r = { s with silence := si } := by
 obtain ⟨ks, ln, nw, sq, si, fi, lg, ba⟩ := s;unfold loud
 cases si with
 | none => exact ⟨none, rfl⟩
 | some p =>
  obtain ⟨a, l⟩ := p;simp only
  split
  ·exact ⟨none, rfl⟩
  ·exact ⟨_, rfl⟩
theorem S3 (s : St) : ∃ si, lapse s = { s with silence := si } := by
 obtain ⟨ks, ln, nw, sq, si, fi, lg, ba⟩ := s;unfold lapse
 cases si with
 | none => exact ⟨none, rfl⟩
 | some p =>
  obtain ⟨a, l⟩ := p;simp only
  split
  ·exact ⟨none, rfl⟩
  ·exact ⟨_, rfl⟩
theorem N3 (s : St) : ∃ fi, quiet s = { s with first := fi } := by
 unfold quiet
 split
 ·exact ⟨none, rfl⟩
 ·exact ⟨s.first, rfl⟩
def Low (b : List Row) (l : List Event) : Prop := (∀ r ∈ b, r.kind < 32) ∧ ∀ e ∈ l, e.kind < 32
theorem Adw {l : List Row} {e : Event} (h : ∀ r ∈ l, r.kind < 32) (he : e.kind < 32) : ∀ r ∈ told l e, r.kind < 32 := by
 have hm : ∀ g : Row → Row, (∀ r, (g r).kind = r.kind) → ∀ r ∈ (l.map fun r => if r.kind = e.kind then g r else r), r.kind < 32 := fun g hg r hr => by
  obtain ⟨q, hq, rfl⟩ := Ay.mp hr
  split
  ·rw [hg]; exact h q hq
  ·exact h q hq
 unfold told
 split
 ·intro r hr
  rcases Ba.mp hr with hr | hr
  ·exact h r hr
  ·rw [A9.mp hr]; exact he
 ·split
  ·exact hm (fun r => { r with rank := e.rank }) fun _ => rfl
  ·split
   ·exact hm (fun r => { r with acked := false }) fun _ => rfl
   ·split
    ·exact hm (fun r => { r with acked := true }) fun _ => rfl
    ·exact fun r hr => h r (Bn.mp hr).1
theorem Agx {s : St} {k w r : Nat} (h : Low s.base s.log) (hk : k < 32) : Low (say s k w r).base (say s k w r).log := by
 obtain ⟨ks, ln, nw, sq, si, fi, lg, ba⟩ := s;unfold say;have hsn : ∀ l : List Event, (∀ e ∈ l, e.kind < 32) → ∀ e ∈ l ++ [(⟨sq, nw, k, w, r⟩ : Event)], e.kind < 32 := fun l hl e he => by
  rcases Ba.mp he with he | he
  ·exact hl e he
  ·rw [A9.mp he]; exact hk
 cases lg with
 | nil => exact ⟨h.1, hsn [] (fun _ z => nomatch z)⟩
 | cons a t =>
  simp only
  split
  ·exact ⟨h.1, hsn _ h.2⟩
  ·exact ⟨Adw h.1 (h.2 a A0), hsn t fun e he => h.2 e (Am _ he)⟩
theorem Tj {b : List Row} (hu : J2 b) (h : ∀ r ∈ b, r.kind < 32) : b.length ≤ 32 := by
 have := C9 hu (l₂ := Be 32) fun a ha => by
  obtain ⟨r, hr, rfl⟩ := Ay.mp ha;exact Cp.mpr (h r hr)
 rwa [Ac, Ct] at this
def Eg (s : St) (k : Nat) : Option Up := (s.kinds[k]?).bind (·.up)
theorem C6 (s : St) (k : Nat) : rowOf s k = (Eg s k).map fun u => ⟨k, u.seq, u.rank, u.acked⟩ := by
 unfold rowOf Eg
 cases s.kinds[k]? with
 | none => rfl
 | some x =>
  show (match x.up with | none => none | some u => _) = Option.map _ x.up
  cases x.up <;> rfl
def Wu (now : Nat) (x : Kind) : Prop := x.rank ≤ 3 ∧ ∀ u, x.up = some u → u.rank ≤ 3 ∧ x.shelf ≤ now
structure Well (s : St) : Prop where
 lim : s.kinds.length ≤ 32
 lin : Kj s.links s.kinds.length
 circ : Gd s.links
 log : J3 s.base s.log
 len : s.log.length ≤ 64
 told : Jd (fin s) (rowOf s)
 seqs : ∀ j k u v, Eg s j = some u → Eg s k = some v → u.seq = v.seq → j = k
 below : ∀ j u, Eg s j = some u → u.seq < s.seq
 kinds : ∀ x ∈ s.kinds, Wu s.now x
 low : Low s.base s.log
inductive Qi (sq : Nat) : Option Up → Option Up → Nat → Nat → Prop where
 | raised (r w : Nat) : Qi sq none (some ⟨sq, r, false, w⟩) 0 r
 | grew (u : Up) (r w : Nat) : u.acked = false → Qi sq (some u) (some { u with rank := r, wait := w }) 1 r
 | again (u : Up) (w : Nat) : Qi sq (some u) (some { u with acked := false, wait := w }) 2 u.rank
 | acked (u : Up) (w : Nat) : Qi sq (some u) (some { u with acked := true, wait := w }) 3 u.rank
 | went (u : Up) (r : Nat) : Qi sq (some u) none 4 r
 | reset (u : Up) (r : Nat) : Qi sq (some u) none 5 r
theorem Qi.ok {s : St} (W : Well s) {k w r : Nat} {u' : Option Up} (T : Qi s.seq (Eg s k) u' w r) : Oi (fin s) ⟨s.seq, s.now, k, w, r⟩ := by
 have key : ∀ u, Eg s k = some u → (⟨k, u.seq, u.rank, u.acked⟩ : Row) ∈ fin s := fun u hu => by
  refine (W.told.iff_ _).mpr ?_;show rowOf s k = _;rw [C6, hu];rfl
 generalize hu : Eg s k = u at T key
 cases T with
 | raised r w =>
  refine .inl ⟨rfl, fun q hq e => ?_⟩;have := (W.told.iff_ q).mp hq;rw [e] at this;simp only at this;rw [C6, hu] at this
  cases this
 | grew u r w ha => exact .inr ⟨by simp, by simp, _, key u rfl, rfl, fun _ => ha, fun h => by simp at h⟩
 | again u w => exact .inr ⟨by simp, by simp, _, key u rfl, rfl, fun h => by simp at h, fun _ => rfl⟩
 | acked u w => exact .inr ⟨by simp, by simp, _, key u rfl, rfl, fun h => by simp at h, fun _ => rfl⟩
 | went u r => exact .inr ⟨by simp, by simp, _, key u rfl, rfl, fun h => by simp at h, fun h => by simp at h⟩
 | reset u r => exact .inr ⟨by simp, by simp, _, key u rfl, rfl, fun h => by simp at h, fun h => by simp at h⟩
theorem G5 {s : St} {k : Nat} {x x' : Kind} (hk : s.kinds[k]? = some x) : Eg (put s k x') k = x'.up := by
 unfold Eg put;simp only;rw [Bm (Af.mp hk).1];rfl
theorem Jo {s : St} {j k : Nat} {x' : Kind} (h : j ≠ k) : Eg (put s k x') j = Eg s j := by
 unfold Eg put;simp only;rw [Bh h.symm]
theorem Hq {s t : St} (h : t.kinds = s.kinds) (k : Nat) : Eg t k = Eg s k := by unfold Eg; rw [h]
theorem W9 {s t : St} (h : t.kinds = s.kinds) : rowOf t = rowOf s := by funext k; rw [C6, C6, Hq h]
theorem Fp {s : St} {k : Nat} {x : Kind} (h : s.kinds[k]? = some x) : Eg s k = x.up := by unfold Eg; rw [h]; rfl
theorem V6 {s : St} {k : Nat} {x' : Kind} {P : Kind → Prop} (h : ∀ x ∈ s.kinds, P x) (hx : P x') : ∀ x ∈ (put s k x').kinds, P x := by
 intro y hy
 rcases Qj hy with hy | e
 ·exact h y hy
 ·rw [e]; exact hx
theorem Well.other {s t : St} (W : Well s) (h1 : t.kinds = s.kinds) (h2 : t.links = s.links) (h3 : t.log = s.log) (h4 : t.base = s.base) (h5 : t.seq = s.seq) (h6 : s.now ≤ t.now) : Well t := by
 refine ⟨by rw [h1]; exact W.lim, by rw [h1, h2]; exact W.lin, by rw [h2]; exact W.circ, by rw [h3, h4]; exact W.log, by rw [h3]; exact W.len, ?_, ?_, ?_, ?_, by rw [h3, h4]; exact W.low⟩
 ·have e : fin t = fin s := by unfold fin; rw [h3, h4]
  rw [e, W9 h1];exact W.told
 ·intro j k u v; rw [Hq h1, Hq h1]; exact W.seqs j k u v
 ·intro j u; rw [Hq h1, h5]; exact W.below j u
 ·intro x hx;rw [h1] at hx;refine ⟨(W.kinds x hx).1, fun u hu => ⟨((W.kinds x hx).2 u hu).1, Bz ((W.kinds x hx).2 u hu).2 h6⟩⟩
theorem Well.put {s : St} {k : Nat} {x x' : Kind} (W : Well s) (hk : s.kinds[k]? = some x) (hu : ∃ w : Up → Nat, x'.up = x.up.map fun u => { u with wait := w u }) (ok : Wu s.now x') : Well (put s k x') := by
 obtain ⟨w, hu⟩ := hu;have hup : ∀ j, ∃ w : Up → Nat, Eg (Au s k x') j = (Eg s j).map fun u => { u with wait := w u } := fun j => by
  by_cases e : j = k
  ·subst e;exact ⟨w, by rw [G5 hk, Fp hk, hu]⟩
  ·exact ⟨fun u => u.wait, by rw [Jo e]; cases Eg s j <;> rfl⟩
 have hrow : rowOf (Au s k x') = rowOf s := by
  funext j
  obtain ⟨w, e⟩ := hup j;rw [C6, C6, e]
  cases Eg s j <;> rfl
 have hl : (Au s k x').kinds.length = s.kinds.length := Dh;refine ⟨by rw [hl]; exact W.lim, by rw [hl]; exact W.lin, W.circ, W.log, W.len, ?_, ?_, ?_, V6 W.kinds ok, W.low⟩
 ·rw [hrow]; exact W.told
 ·intro i j u v h1 h2 e;obtain ⟨w1, e1⟩ := hup i;obtain ⟨w2, e2⟩ := hup j;rw [e1] at h1;rw [e2] at h2
  cases h3 : Eg s i with
  | none => rw [h3] at h1; cases h1
  | some a =>
   cases h4 : Eg s j with
   | none => rw [h4] at h2; cases h2
   | some b =>
    rw [h3] at h1;rw [h4] at h2
    cases h1
    cases h2
    exact W.seqs i j a b h3 h4 e
 ·intro i u h1;obtain ⟨w1, e1⟩ := hup i;rw [e1] at h1
  cases h3 : Eg s i with
  | none => rw [h3] at h1; cases h1
  | some a =>
   rw [h3] at h1
   cases h1
   exact W.below i a h3
theorem Well.event {s : St} {k w r : Nat} {x x' : Kind} (W : Well s) (hk : s.kinds[k]? = some x) (T : Qi s.seq x.up x'.up w r) (ok : Wu s.now x') : Well (say (Au s k x') k w r) := by
 rw [← Fp hk] at T;have st : Oi (fin s) ⟨s.seq, s.now, k, w, r⟩ := Qi.ok W T;rw [Fp hk] at T;have hkk : (say (Au s k x') k w r).kinds = (Au s k x').kinds := Ff _ _ _ _;have hl : (say (Au s k x') k w r).kinds.length = s.kinds.length := by rw [hkk]; exact Dh
 have hups : ∀ j, j ≠ k → Eg (say (Au s k x') k w r) j = Eg s j := fun j e => by rw [Hq hkk, Jo e]
 have hupk : Eg (say (Au s k x') k w r) k = x'.up := by rw [Hq hkk, G5 hk]
 have hsq : ∀ u', x'.up = some u' → u'.seq = s.seq ∨ ∃ u, x.up = some u ∧ u.seq = u'.seq := by
  intro u' hu';generalize x.up = a at T;rw [hu'] at T
  cases T with
  | raised r w => exact .inl rfl
  | grew u r w h => exact .inr ⟨u, rfl, rfl⟩
  | again u w => exact .inr ⟨u, rfl, rfl⟩
  | acked u w => exact .inr ⟨u, rfl, rfl⟩
 refine ⟨by rw [hl]; exact W.lim, by rw [hl, V3]; exact W.lin, by rw [V3]; exact W.circ, ?_, ?_, ?_, ?_, ?_, ?_, Agx (s := Au s k x') W.low (Bs (Af.mp hk).1 W.lim)⟩
 ·exact Aho (s := Au s k x') W.log st
 ·exact Agy (s := Au s k x') W.len
 ·rw [Ahw];refine Jd.told (f := rowOf s) (show Jd (fin s) (rowOf s) from W.told) st ?_ ?_
  ·show rowOf (say (Au s k x') k w r) k = Tn (rowOf s k) ⟨s.seq, s.now, k, w, r⟩;rw [C6, C6, hupk, Fp hk];generalize x.up = a at T;generalize x'.up = b at T
   cases T <;> rfl
  ·intro j hj;rw [C6, C6, hups j hj]
 ·intro i j u v h1 h2 e
  by_cases hi : i = k
  ·by_cases hj : j = k
   ·rw [hi, hj]
   ·subst hi;rw [hupk] at h1;rw [hups j hj] at h2
    rcases hsq u h1 with q | ⟨y, hy, q⟩
    ·have := W.below j v h2; omega
    ·exact W.seqs i j y v (by rw [Fp hk]; exact hy) h2 (q.trans e)
  ·rw [hups i hi] at h1
   by_cases hj : j = k
   ·subst hj;rw [hupk] at h2
    rcases hsq v h2 with q | ⟨y, hy, q⟩
    ·have := W.below i u h1; omega
    ·exact W.seqs i j u y h1 (by rw [Fp hk]; exact hy) (e.trans q.symm)
   ·rw [hups j hj] at h2;exact W.seqs i j u v h1 h2 e
 ·intro i u h1;rw [Ln];show u.seq < s.seq + 1
  by_cases hi : i = k
  ·subst hi;rw [hupk] at h1
   rcases hsq u h1 with q | ⟨y, hy, q⟩
   ·omega
   ·have := W.below i y (by rw [Fp hk]; exact hy); omega
  ·rw [hups i hi] at h1;have := W.below i u h1; omega
 ·rw [hkk, Yd];exact V6 W.kinds ok
theorem Well.loud {s : St} (W : Well s) (r : Nat) : Well (loud s r) := by
 obtain ⟨si, e⟩ := Qz s r;rw [e];exact W.other rfl rfl rfl rfl rfl (Ak _)
theorem Well.lapse {s : St} (W : Well s) : Well (lapse s) := by
 obtain ⟨si, e⟩ := S3 s;rw [e];exact W.other rfl rfl rfl rfl rfl (Ak _)
theorem Well.quiet {s : St} (W : Well s) : Well (quiet s) := by
 obtain ⟨si, e⟩ := N3 s;rw [e];exact W.other rfl rfl rfl rfl rfl (Ak _)
theorem Well.raise {s : St} {k : Nat} {x y : Kind} (W : Well s) (hk : s.kinds[k]? = some x) (hu : x.up = none) (hr : y.rank ≤ 3) (hs : y.shelf ≤ s.now) : Well (raise s k y) := by
 unfold Ec;refine Well.loud ?_ _;have := Well.event (x' := { y with held := 0, up := some ⟨s.seq, y.rank, false, 0⟩ }) W hk (by rw [hu]; exact .raised _ _) (⟨hr, fun u e => by cases e; exact ⟨hr, hs⟩⟩);have h2 := Well.other (t := { say (Au s k { y with held := 0, up := some ⟨s.seq, y.rank, false, 0⟩ }) k 0 y.rank with first := if s.first = none then some k else s.first }) this rfl rfl rfl rfl rfl (Ak _);have e : ∀ (t : St) (fi : Option Nat) (j w r : Nat), say { t with first := fi } j w r = { say t j w r with first := fi } := by
  intro t fi j w r;obtain ⟨ks, ln, nw, sq, si, fi', lg, ba⟩ := t;unfold say
  cases lg with
  | nil => rfl
  | cons a b => simp only; split <;> rfl
 rw [e];exact h2
theorem Ak3 {s : St} {k : Nat} {x : Kind} (h : s.kinds[k]? = some x) : x ∈ s.kinds := As h
theorem Well.at {s : St} (W : Well s) {k : Nat} {x : Kind} (h : s.kinds[k]? = some x) : Wu s.now x := W.kinds x (Ak3 h)
theorem Well.onK {s : St} (W : Well s) (k : Nat) : Well (onK s k).1 := by
 unfold Ez
 cases hk : s.kinds[k]? with
 | none => exact W
 | some x =>
  have ok := W.at hk;simp only
  split
  ·exact W
  ·cases hu : x.up with
   | none =>
    simp only
    split
    ·rename_i h;exact W.raise (y := { x with cond := true, held := 0, up := none }) hk hu ok.1 h.2
    ·exact W.put hk ⟨fun u => u.wait, by simp [hu]⟩ ⟨ok.1, fun u e => by simp at e⟩
   | some u =>
    simp only
    split
    ·refine Well.loud ?_ _;exact W.event hk (by rw [hu]; exact .again u 0) ⟨ok.1, fun v e => by cases e; exact ok.2 u hu⟩
    ·exact W.put hk ⟨fun u => u.wait, by simp [hu]⟩ ⟨ok.1, fun v e => by cases e; exact ok.2 u hu⟩
theorem Well.offK {s : St} (W : Well s) (k : Nat) : Well (offK s k).1 := by
 unfold E4
 cases hk : s.kinds[k]? with
 | none => exact W
 | some x =>
  have ok := W.at hk;simp only
  split
  ·exact W
  ·cases hu : x.up with
   | none => exact W.put hk ⟨fun u => u.wait, by simp [hu]⟩ ⟨ok.1, fun u e => by simp at e⟩
   | some u =>
    simp only
    split
    ·exact W.put hk ⟨fun u => u.wait, by simp [hu]⟩ ⟨ok.1, fun v e => by cases e; exact ok.2 u hu⟩
    ·exact Well.quiet (W.event hk (by rw [hu]; exact .went u _) ⟨ok.1, fun v e => by cases e⟩)
theorem Well.senseFrom (m : Nat) : ∀ (l : List Nat) {s : St}, Well s → Well (senseFrom m l s)
 | [], _, W => W
 | k :: l, s, W => by
  unfold Vbdlah.senseFrom;refine Well.senseFrom m l ?_
  split
  ·exact W.onK k
  ·exact W.offK k
theorem Well.secondOf {s : St} (W : Well s) (k : Nat) : Well (secondOf s k) := by
 unfold Vbdlah.secondOf
 cases hk : s.kinds[k]? with
 | none => exact W
 | some x =>
  have ok := W.at hk;simp only
  cases hu : x.up with
  | none =>
   simp only
   by_cases hc : x.cond = true
   ·rw [if_pos hc];generalize (if x.shelf < s.now then x.held + 1 else x.held) = hd
    split
    ·rename_i h;exact W.raise hk hu ok.1 h.1
    ·exact W.put hk ⟨fun u => u.wait, by simp [hu]⟩ ⟨ok.1, fun v e => by cases e⟩
   ·rw [if_neg hc]; exact W
  | some u =>
   simp only
   split
   ·rename_i ha
    split
    ·rename_i h3
     split
     ·refine Well.loud ?_ _;exact W.event hk (by rw [hu]; exact .grew u _ 0 ha) ⟨ok.1, fun v e => by cases e; exact ⟨by show u.rank + 1 ≤ 3; omega, (ok.2 u hu).2⟩⟩
     ·exact W.put hk ⟨fun u => u.wait + 1, by simp [hu]⟩ ⟨ok.1, fun v e => by cases e; exact ok.2 u hu⟩
    ·exact W
   ·split
    ·split
     ·refine Well.loud ?_ _;exact W.event hk (by rw [hu]; exact .again u 0) ⟨ok.1, fun v e => by cases e; exact ok.2 u hu⟩
     ·exact W.put hk ⟨fun u => u.wait + 1, by simp [hu]⟩ ⟨ok.1, fun v e => by cases e; exact ok.2 u hu⟩
    ·exact W
theorem Well.fold {f : St → Nat → St} (h : ∀ s k, Well s → Well (f s k)) : ∀ (l : List Nat) {s : St}, Well s → Well (l.foldl f s)
 | [], _, W => W
 | k :: l, s, W => Well.fold h l (h s k W)
theorem Well.second {s : St} (W : Well s) : Well (second s) := by
 unfold Vbdlah.second;refine Well.fold (fun s k W => W.secondOf k) _ (Well.lapse ?_);exact W.other rfl rfl rfl rfl rfl (F7 _)
theorem Well.seconds : ∀ (n : Nat) {s : St}, Well s → Well (seconds n s)
 | 0, _, W => W
 | n + 1, s, W => Well.seconds n W.second
theorem Well.ackOne {s : St} (W : Well s) (k : Nat) : Well (ackOne s k) := by
 unfold Dd
 cases hk : s.kinds[k]? with
 | none => exact W
 | some x =>
  have ok := W.at hk;simp only
  cases hu : x.up with
  | none => exact W
  | some u =>
   simp only
   split
   ·exact W
   ·exact W.event hk (by rw [hu]; exact .acked u 0) ⟨ok.1, fun v e => by cases e; exact ok.2 u hu⟩
theorem Well.resetOne {s : St} (W : Well s) (k : Nat) : Well (resetOne s k) := by
 unfold Fb
 cases hk : s.kinds[k]? with
 | none => exact W
 | some x =>
  have ok := W.at hk;simp only
  cases hu : x.up with
  | none => exact W
  | some u => exact Well.quiet (W.event hk (by rw [hu]; exact .reset u _) ⟨ok.1, fun v e => by cases e⟩)
theorem Well.resets : ∀ (n : Nat) {s : St}, Well s → Well (resets n s).1
 | 0, _, W => W
 | n + 1, s, W => by
  unfold Vbdlah.resets
  split
  ·exact W
  ·exact Well.resets n (W.resetOne _)
theorem Qn {s : St} {k : Nat} (h : s.kinds.length ≤ k) : Eg s k = none := by
 unfold Eg; rw [K7 h]; rfl
theorem Well.define {s : St} (W : Well s) {x : Kind} (hl : s.kinds.length < 32) (hu : x.up = none) (hr : x.rank ≤ 3) : Well { s with kinds := s.kinds ++ [x] } := by
 have hup : ∀ k, Eg { s with kinds := s.kinds ++ [x] } k = Eg s k := fun k => by
  unfold Eg;simp only
  by_cases h : k < s.kinds.length
  ·rw [Iv h]
  ·rw [Dz (by omega), K7 (l := s.kinds) (by omega)]
   by_cases h2 : k - s.kinds.length = 0
   ·rw [h2]; exact hu
   ·rw [K7 (by simp; omega)]
 have hrow : rowOf { s with kinds := s.kinds ++ [x] } = rowOf s := by funext k; rw [C6, C6, hup]
 refine ⟨by simp; omega, fun a b h => by have := W.lin a b h; simp; omega, W.circ, W.log, W.len, by rw [hrow]; exact W.told, ?_, ?_, ?_, W.low⟩
 ·intro j k u v; rw [hup, hup]; exact W.seqs j k u v
 ·intro j u; rw [hup]; exact W.below j u
 ·intro y hy
  rcases Ba.mp hy with hy | hy
  ·exact W.kinds y hy
  ·rw [A9.mp hy]; exact ⟨hr, fun u e => by rw [hu] at e; cases e⟩
theorem Well.linked {s : St} (W : Well s) {ln : List (Nat × Nat)} (hl : Kj ln s.kinds.length) (hc : Gd ln) : Well { s with links := ln } :=
 ⟨W.lim, hl, hc, W.log, W.len, W.told, W.seqs, W.below, W.kinds, W.low⟩
theorem Ey {s : St} {k : Int} : isKind s k = true ↔ 0 ≤ k ∧ k < s.kinds.length := by
 unfold isKind; simp
theorem Kf {α : Type} {f : α → α → Bool} {x : α} : ∀ {l : List α}, (insertBy f x l).Perm (x :: l)
 | [] => .refl _
 | y :: l => by
  unfold insertBy
  split
  ·exact .refl _
  ·exact ((Kf (l := l)).cons y).trans (.swap x y l)
theorem E3 {α : Type} {f : α → α → Bool} : ∀ (l : List α), (sortBy f l).Perm l
 | [] => .refl _
 | x :: l => (Kf).trans ((E3 l).cons x)
theorem Hs {s : St} {k : Nat} {r : Row} (h : rowOf s k = some r) : r.kind = k ∧ k < s.kinds.length := by
 rw [C6] at h
 cases hu : Eg s k with
 | none => rw [hu] at h; cases h
 | some u =>
  rw [hu] at h
  cases h
  refine ⟨rfl, ?_⟩
  by_cases hk : k < s.kinds.length
  ·exact hk
  ·rw [Qn (by omega)] at hu; cases hu
theorem Dl (s : St) : Jd (rowsByNumber s) (rowOf s) := by
 constructor
 ·unfold J2 rowsByNumber numbers;have h : ∀ l : List Nat, ((l.filterMap fun k => rowOf s k).map (·.kind)).Sublist l := by
   intro l
   induction l with
   | nil => exact .slnil
   | cons a l ih =>
    rw [Ci]
    cases e : rowOf s a with
    | none => exact ih.cons a
    | some r =>
     show (r.kind :: _).Sublist _;rw [(Hs e).1];exact ih.cons₂ a
  exact (h _).nodup List.nodup_range
 ·intro r;unfold rowsByNumber numbers;rw [Aao]
  constructor
  ·rintro ⟨k, _, h⟩;rw [(Hs h).1]; exact h
  ·intro h;exact ⟨r.kind, Cp.mpr (Hs h).2, h⟩
theorem Jd.perm {l l' : List Row} {f : Nat → Option Row} (h : Jd l f) (p : l'.Perm l) : Jd l' f :=
 ⟨((p.map (fun r : Row => r.kind)).nodup_iff).mpr h.uniq, fun r => by rw [p.mem_iff]; exact h.iff_ r⟩
theorem Fh (s : St) : Jd (rows s) (rowOf s) := (Dl s).perm (E3 _)
def numbered (n : Nat) (x : Kind) : Kind := { x with up := x.up.map fun u => { u with seq := n } }
theorem Ex : ∀ (l : List Row) (n : Nat) (s : St), J2 l → (∀ r ∈ l, ∃ x, s.kinds[r.kind]? = some x ∧ x.up.isSome) → ∀ k, (renumbered n l s).kinds[k]? = (match l.findIdx? (fun r => r.kind == k) with
  | none => s.kinds[k]?
  | some i => (s.kinds[k]?).map (numbered (n + i))) ∧ (renumbered n l s).kinds.length = s.kinds.length ∧ renumbered n l s = { s with kinds := (renumbered n l s).kinds }
 | [], n, s, _, _, k => ⟨rfl, rfl, rfl⟩
 | r :: l, n, s, hu, h, k => by
  obtain ⟨x, hx, hux⟩ := h r A0;unfold J2 at hu;rw [Bc] at hu;obtain ⟨hr, hu⟩ := Bt.mp hu;have e : renumbered n (r :: l) s = renumbered (n + 1) l (Au s r.kind (numbered n x)) := by
   rw [renumbered, hx]
   cases hq : x.up with
   | none => rw [hq] at hux; cases hux
   | some u => simp only [hq]; unfold numbered; rw [hq]; rfl
  rw [e];have hs : ∀ j, (Au s r.kind (numbered n x)).kinds[j]? = if j = r.kind then some (numbered n x) else s.kinds[j]? := fun j => by
   unfold Au;simp only
   by_cases hj : j = r.kind
   ·rw [if_pos hj, hj, Bm (Af.mp hx).1]
   ·rw [if_neg hj, Bh (fun q => hj q.symm)]
  obtain ⟨h1, h2, h3⟩ := Ex l (n + 1) (Au s r.kind (numbered n x)) hu (fun q hq => by
   obtain ⟨y, hy, hv⟩ := h q (Am _ hq);rw [hs]
   by_cases hqr : q.kind = r.kind
   ·exact absurd (Ay.mpr ⟨q, hq, hqr⟩) hr
   ·rw [if_neg hqr]; exact ⟨y, hy, hv⟩) k
  refine ⟨?_, by rw [h2]; exact Dh, ?_⟩
  ·rw [h1, List.findIdx?_cons]
   by_cases hk : r.kind = k
   ·have hno : l.findIdx? (fun q => q.kind == k) = none := by
     rw [Qk];intro q hq;have : q.kind ≠ k := fun z => hr (Ay.mpr ⟨q, hq, by rw [z, hk]⟩);simp [this]
    rw [hno, if_pos (by simp [hk])];simp only;rw [hs, if_pos hk.symm, ← hk, hx];rfl
   ·rw [if_neg (by simp [hk])]
    cases hf : l.findIdx? (fun q => q.kind == k) with
    | none => simp only [Option.map_none]; rw [hs, if_neg (fun z => hk z.symm)]
    | some i =>
     simp only [Option.map_some];rw [hs, if_neg (fun z => hk z.symm), show n + 1 + i = n + (i + 1) by omega]
  ·rw [h3]; rfl
theorem G0 {s : St} : ∀ r ∈ rows s, ∃ x, s.kinds[r.kind]? = some x ∧ x.up.isSome := fun r hr => by
 have h := ((Fh s).iff_ r).mp hr;rw [C6] at h;unfold Eg at h
 cases hk : s.kinds[r.kind]? with
 | none => rw [hk] at h; cases h
 | some x =>
  rw [hk] at h;refine ⟨x, rfl, ?_⟩
  cases hu : x.up with
  | none => rw [show (some x).bind (·.up) = x.up from rfl, hu] at h; cases h
  | some u => rfl
theorem Pk {s : St} {k : Nat} {u : Up} (h : Eg (renumbered 0 (rows s) s) k = some u) : ∃ r v, (rows s)[u.seq]? = some r ∧ r.kind = k ∧ Eg s k = some v ∧ u = { v with seq := u.seq } := by
 have hk := (Ex (rows s) 0 s (Fh s).uniq G0 k).1;unfold Eg at h ⊢;rw [hk] at h
 cases hf : (rows s).findIdx? (fun r => r.kind == k) with
 | none =>
  rw [hf] at h;simp only at h;rw [Qk] at hf;have : rowOf s k = some ⟨k, u.seq, u.rank, u.acked⟩ := by rw [C6]; unfold Eg; rw [h]; rfl
  have := hf _ (((Fh s).iff_ ⟨k, u.seq, u.rank, u.acked⟩).mpr this);simp at this
 | some i =>
  rw [hf] at h;simp only at h;obtain ⟨hi, hp, _⟩ := Aca.mp hf;have hp' : (rows s)[i].kind = k := by simpa using hp
  cases hx : s.kinds[k]? with
  | none => rw [hx] at h; cases h
  | some x =>
   rw [hx] at h
   cases hu : x.up with
   | none =>
    have : (numbered (0 + i) x).up = some u := h;unfold numbered at this;rw [hu] at this
    cases this
   | some v =>
    have : (numbered (0 + i) x).up = some u := h;unfold numbered at this;rw [hu] at this;have e : { v with seq := 0 + i } = u := Ah this;have e2 : u.seq = i := by rw [← e]; simp
    refine ⟨(rows s)[i], v, by rw [e2]; exact Aq hi, hp', hu, ?_⟩;rw [e2, ← e]; simp
theorem Well.renew {s : St} (W : Well s) : Well (renew s) := by
 have h := Ex (rows s) 0 s (Fh s).uniq G0;have hl := (h 0).2.1;have h3 := (h 0).2.2;have hk : ∀ x ∈ (renumbered 0 (rows s) s).kinds, ∃ y ∈ s.kinds, x = y ∨ ∃ n, x = numbered n y := fun x hx => by
  obtain ⟨k, hk⟩ := B2 hx;rw [(h k).1] at hk
  cases hf : (rows s).findIdx? (fun r => r.kind == k) with
  | none => rw [hf] at hk; exact ⟨x, As hk, .inl rfl⟩
  | some i =>
   rw [hf] at hk;simp only at hk
   cases hy : s.kinds[k]? with
   | none => rw [hy] at hk; cases hk
   | some y => rw [hy] at hk; exact ⟨y, As hy, .inr ⟨_, (Ah hk).symm⟩⟩
 have hlk : (renumbered 0 (rows s) s).links = s.links := by rw [h3]
 have hnw : (renumbered 0 (rows s) s).now = s.now := by rw [h3]
 unfold Vbdlah.renew;refine ⟨by show (renumbered 0 (rows s) s).kinds.length ≤ 32; rw [hl]; exact W.lim, ?_, ?_, (Fh (renumbered 0 (rows s) s)).uniq, by simp, ?_, ?_, ?_, ?_, ?_, fun e he => by cases he⟩
 ·show Kj (renumbered 0 (rows s) s).links (renumbered 0 (rows s) s).kinds.length;rw [hl, hlk]; exact W.lin
 ·show Gd (renumbered 0 (rows s) s).links;rw [hlk]; exact W.circ
 ·exact Fh (renumbered 0 (rows s) s)
 ·intro j k u v h1 h2 e;obtain ⟨r, _, hr, rk, _⟩ := Pk h1;obtain ⟨q, _, hq, qk, _⟩ := Pk h2;rw [e, hq] at hr;rw [← rk, ← qk, Ah hr]
 ·intro j u h1;obtain ⟨r, _, hr, _⟩ := Pk h1;exact (Af.mp hr).1
 ·intro x hx;show Wu (renumbered 0 (rows s) s).now x;rw [hnw];obtain ⟨y, hy, e | ⟨n, e⟩⟩ := hk x hx
  ·rw [e]; exact W.kinds y hy
  ·rw [e];refine ⟨(W.kinds y hy).1, fun u hu => ?_⟩;unfold numbered at hu ⊢
   cases hv : y.up with
   | none => rw [hv] at hu; cases hu
   | some v =>
    rw [hv] at hu
    cases hu
    exact (W.kinds y hy).2 v hv
 ·intro r hr;have := Hs (((Fh (renumbered 0 (rows s) s)).iff_ r).mp hr);rw [hl] at this;have := W.lim;omega
theorem Well.start : Well Bx := by
 refine ⟨by decide, fun a b h => (by cases h), fun x h => ?_, ?_, by decide, ⟨?_, fun r => ?_⟩, fun j k u v h => ?_, fun j u h => ?_, fun x h => (by cases h), fun r h => (by cases h), fun e h => (by cases h)⟩
 ·cases h with
  | one h => cases h
  | more h _ => cases h
 ·exact Kn
 ·exact Kn
 ·constructor
  ·intro h; cases h
  ·intro h;have := (Hs h).2;exact absurd this (Vq _)
 ·rw [Qn (B7 _)] at h; cases h
 ·rw [Qn (B7 _)] at h; cases h
theorem Q4 : ∀ (l : List Row) {s : St}, Well s → Well (l.foldl (fun t x => Dd t x.kind) s)
 | [], _, W => W
 | r :: l, s, W => Q4 l (W.ackOne r.kind)
theorem Gp {n a b : Int} : within n a b = true ↔ a ≤ n ∧ n ≤ b := by unfold within; simp
theorem Well.step {s : St} (W : Well s) (c : Call) : Well (step s c).1 := by
 cases c with
 | define r l d e a b =>
  unfold Ae;simp only
  split
  ·exact W
  ·rename_i h
   split
   ·exact W
   ·rename_i h2;refine W.define (by unfold KINDS at h2; omega) rfl ?_;simp [Gp] at h;show r.toNat ≤ 3;omega
 | link a b =>
  unfold Ae;simp only
  split
  ·exact W
  ·rename_i h;simp at h;have ha := Ey.mp h.1;have hb := Ey.mp h.2
   split
   ·exact W
   ·rename_i h2
    split
    ·exact W
    ·refine W.linked (fun x y hxy => ?_) (W.circ.link (by omega) fun hB => h2 (.inr ?_))
     ·rcases Ba.mp hxy with hxy | hxy
      ·exact W.lin x y hxy
      ·cases A9.mp hxy
       omega
     ·exact (Td W.lin W.lim (by omega) W.circ).mpr hB
 | unlink a b =>
  unfold Ae;simp only
  split
  ·exact W
  ·split
   ·exact W.linked (fun x y h => W.lin x y (Bn.mp h).1) (W.circ.sub fun p h => (Bn.mp h).1)
   ·exact W
 | on k => unfold Ae; simp only; split; exact W; split; exact W; exact W.onK _
 | off k => unfold Ae; simp only; split; exact W; split; exact W; exact W.offK _
 | sense m => unfold Ae; simp only; split; exact W; split; exact W; exact W.senseFrom _ _
 | tick n => unfold Ae; simp only; split; exact W; split; exact W; split; exact W; exact W.seconds _
 | ack k => unfold Ae; simp only; split; exact W; split; exact W; split; exact W; exact W.ackOne _
 | ackTo r => unfold Ae; simp only; split; exact W; split; exact W; exact Q4 _ W
 | silence n => unfold Ae; simp only; split; exact W; split; exact W; exact W.other rfl rfl rfl rfl rfl (Ak _)
 | reset k => unfold Ae; simp only; split; exact W; split; exact W; split; exact W; exact W.resetOne _
 | resetAll => unfold Ae; simp only; split; exact W; exact Well.resets _ W
 | shelve k n =>
  unfold Ae;simp only
  split
  ·exact W
  ·cases hx : s.kinds[k.toNat]? with
   | none => exact W
   | some x =>
    simp only
    split
    ·exact W
    ·split
     ·exact W
     ·rename_i h;have hu : x.up = none := by cases hu : x.up with | none => rfl | some u => rw [hu] at h; simp at h
      exact W.put hx ⟨fun u => u.wait, by rw [hu]; rfl⟩ ⟨(W.at hx).1, fun u e => by rw [show x.up = some u from e] at hu; cases hu⟩
 | unshelve k =>
  unfold Ae;simp only
  split
  ·exact W
  ·split
   ·exact W
   ·cases hx : s.kinds[k.toNat]? with
    | none => exact W
    | some x =>
     simp only
     split
     ·exact W
     ·rename_i h;have hu : x.up = none := by
       cases hu : x.up with
       | none => rfl
       | some u => exact absurd ((W.at hx).2 u hu).2 h
      split
      ·exact W.raise hx hu (W.at hx).1 (Ak _)
      ·exact W.put hx ⟨fun u => u.wait, by rw [hu]; rfl⟩ ⟨(W.at hx).1, fun u e => by rw [show x.up = some u from e] at hu; cases hu⟩
 | clock t =>
  unfold Ae;simp only
  split
  ·exact W
  ·split
   ·exact W
   ·split
    ·exact W
    ·refine Well.lapse (W.other rfl rfl rfl rfl rfl ?_);show s.now ≤ t.toNat;omega
 | renew => exact W.renew
 | kind k => unfold Ae; simp only; split <;> exact W
 | before a b => unfold Ae; simp only; split <;> exact W
 | behind k => unfold Ae; simp only; split <;> exact W
 | why k => unfold Ae; simp only; split; exact W; split <;> exact W
 | log n => unfold Ae; simp only; split <;> exact W
 | _ => exact W
theorem Kh (s : St) (k : Nat) : isUp s k = (Eg s k).isSome := by
 unfold isUp Eg
 cases s.kinds[k]? <;> rfl
theorem Lp (s : St) : (quiet s).kinds = s.kinds := by obtain ⟨f, e⟩ := N3 s; rw [e]
theorem Kz {s : St} {k : Nat} {x : Kind} {u : Up} (hk : s.kinds[k]? = some x) (hu : x.up = some u) : (resetOne s k).kinds = s.kinds.set k { x with up := none, held := 0 } := by
 unfold resetOne;rw [hk];simp only [hu];rw [Lp, Ff];rfl
theorem L6 {s : St} {k : Nat} (h : barred s k = none) : ∃ x u, s.kinds[k]? = some x ∧ x.up = some u ∧ x.cond = false ∧ u.acked = true ∧ hinder s k = [] := by
 unfold barred at h
 cases hk : s.kinds[k]? with
 | none => rw [hk] at h; cases h
 | some x =>
  rw [hk] at h;simp only at h
  cases hu : x.up with
  | none => rw [hu] at h; cases h
  | some u =>
   rw [hu] at h;simp only at h
   split at h
   ·cases h
   ·split at h
    ·cases h
    ·split at h
     ·cases h
     ·rename_i h1 h2 h3;exact ⟨x, u, rfl, hu, by simpa using h1, by simpa using h2, by simpa using h3⟩
theorem Ue {s : St} {k : Nat} (h : barred s k = none) : (raised (resetOne s k)).length < (raised s).length := by
 obtain ⟨x, u, hk, hu, _⟩ := L6 h;have hl : (resetOne s k).kinds.length = s.kinds.length := by rw [Kz hk hu, Dh]
 have e : raised (resetOne s k) = (raised s).filter fun j => j != k := by
  unfold raised numbers;rw [hl, List.filter_filter]
  apply Ri
  intro j _;rw [Kh, Kh];unfold Eg;rw [Kz hk hu]
  by_cases q : j = k
  ·subst q;rw [Bm (Af.mp hk).1];simp
  ·rw [Bh (fun z => q z.symm)];simp [q]
 rw [e]
 apply Xv.mpr
 refine ⟨k, ?_, by simp⟩;unfold raised numbers;rw [Bn, Cp];refine ⟨(Af.mp hk).1, ?_⟩;rw [Kh];unfold Eg;rw [hk];show x.up.isSome = true;rw [hu];rfl
def Gg (s : St) : Option Nat := (numbers s).find? fun k => (barred s k).isNone
theorem K6 {s : St} {k : Nat} (h : Gg s = some k) : barred s k = none := by
 have := List.find?_some h
 simpa using this
theorem Xb {s : St} (h : Gg s = none) : ∀ m, resets m s = (s, [])
 | 0 => rfl
 | m + 1 => by
  unfold resets;rw [show ((numbers s).find? fun k => (barred s k).isNone) = none from h]
theorem Xa {s : St} {k : Nat} (h : Gg s = some k) (m : Nat) : resets (m + 1) s = ((resets m (resetOne s k)).1, k :: (resets m (resetOne s k)).2) := by
 rw [resets];rw [show ((numbers s).find? fun k => (barred s k).isNone) = some k from h]
structure Gh (s0 s : St) (done : List Nat) (m : Nat) : Prop where
 st : (resets m s).1 = (resetAll s0).1
 out : done ++ (resets m s).2 = (resetAll s0).2
 enough : (raised s).length ≤ m
theorem Gh.start (s : St) : Gh s s [] s.kinds.length := ⟨rfl, rfl, by
 unfold raised numbers;have := Cc (fun k => isUp s k) (Be s.kinds.length)
 rwa [Ct] at this⟩
theorem Gh.turn {s0 s : St} {done : List Nat} {m k : Nat} (R : Gh s0 s done m) (h : Gg s = some k) : ∃ m', m' < m ∧ Gh s0 (resetOne s k) (done ++ [k]) m' := by
 have hb := K6 h;have hr := Ue hb;have he := R.enough
 cases m with
 | zero => omega
 | succ m =>
  have e := Xa h m;refine ⟨m, Lc m, ?_, ?_, by omega⟩
  ·rw [← R.st, e]
  ·rw [← R.out, e]; simp
theorem Gh.done {s0 s : St} {done : List Nat} {m : Nat} (R : Gh s0 s done m) (h : Gg s = none) : resetAll s0 = (s, done) := by
 have e := Xb h m;have h1 := R.st;have h2 := R.out;rw [e] at h1 h2;simp at h2;exact Prod.ext h1.symm h2.symm
theorem Gq (m : Nat) : ∀ (l : List Nat) (s : St), senseFrom m l s = l.foldl (fun s k => if m.testBit k = true then (onK s k).1 else (offK s k).1) s
 | [], _ => rfl
 | k :: l, s => by rw [senseFrom, Gq m l]; rfl
theorem Io : ∀ (l : List Row) (m : Nat), l.foldl (fun m r => if r.acked = true then m else max m (r.rank + 1)) m = ((l.filter fun r => !r.acked).map (·.rank + 1)).foldl max m
 | [], m => rfl
 | r :: l, m => by
  rw [Cu]
  by_cases h : r.acked = true
  ·rw [if_pos h, Bu, if_neg (by simp [h])];exact Io l m
  ·rw [if_neg h, Bu, if_pos (by simp [h]), Bc, Cu];exact Io l _
theorem P8 (s : St) (r : Nat) : (loud s r).seq = s.seq := by obtain ⟨si, e⟩ := Qz s r; rw [e]
theorem Abq (s : St) : (lapse s).seq = s.seq := by obtain ⟨si, e⟩ := S3 s; rw [e]
theorem Ab8 (s : St) : (quiet s).seq = s.seq := by obtain ⟨si, e⟩ := N3 s; rw [e]
theorem V4 (s : St) (k : Nat) (x : Kind) : (raise s k x).seq = s.seq + 1 := by
 unfold raise;rw [P8, Ln];rfl
theorem Aha (s : St) (k : Nat) : s.seq ≤ (onK s k).1.seq := by
 unfold onK
 cases s.kinds[k]? with
 | none => exact Ak _
 | some x =>
  simp only
  split
  ·exact Ak _
  ·cases x.up with
   | none =>
    simp only
    split
    ·rw [V4]; exact F7 _
    ·exact Ak _
   | some u =>
    simp only
    split
    ·rw [P8, Ln]; exact F7 _
    ·exact Ak _
theorem Aen (s : St) (k : Nat) : s.seq ≤ (offK s k).1.seq := by
 unfold offK
 cases s.kinds[k]? with
 | none => exact Ak _
 | some x =>
  simp only
  split
  ·exact Ak _
  ·cases x.up with
   | none => exact Ak _
   | some u =>
    simp only
    split
    ·exact Ak _
    ·rw [Ab8, Ln]; exact F7 _
theorem U5 {α : Type} {f : St → α → St} (h : ∀ s a, s.seq ≤ (f s a).seq) : ∀ (l : List α) (s : St), s.seq ≤ (l.foldl f s).seq
 | [], s => Ak _
 | a :: l, s => Bz (h s a) (U5 h l _)
theorem Ab0 (m : Nat) (l : List Nat) (s : St) : s.seq ≤ (senseFrom m l s).seq := by
 rw [Gq];refine U5 (fun s k => ?_) l s
 split
 ·exact Aha s k
 ·exact Aen s k
theorem Tv (s : St) (k : Nat) : s.seq ≤ (secondOf s k).seq := by
 unfold secondOf
 cases s.kinds[k]? with
 | none => exact Ak _
 | some x =>
  simp only
  cases x.up with
  | none =>
   simp only
   by_cases hc : x.cond = true
   ·rw [if_pos hc];generalize (if x.shelf < s.now then x.held + 1 else x.held) = hd
    split
    ·rw [V4]; exact F7 _
    ·exact Ak _
   ·rw [if_neg hc]; exact Ak _
  | some u =>
   simp only
   split
   ·split
    ·split
     ·rw [P8, Ln]; exact F7 _
     ·exact Ak _
    ·exact Ak _
   ·split
    ·split
     ·rw [P8, Ln]; exact F7 _
     ·exact Ak _
    ·exact Ak _
theorem Yv (s : St) : s.seq ≤ (second s).seq := by
 unfold second;refine Bz ?_ (U5 Tv _ _);rw [Abq];exact Ak _
theorem Pc : ∀ (n : Nat) (s : St), s.seq ≤ (seconds n s).seq
 | 0, s => Ak _
 | n + 1, s => Bz (Yv s) (Pc n _)
theorem V2 {s t : St} (h : s.seq ≤ t.seq) : (t.seq : Int) - (s.seq : Int) = since s t := by
 unfold since;omega
theorem Well.deed {s : St} {k : Nat} {z : Kind} (W : Well s) (hk : s.kinds[k]? = some z) (h1 : z.up = none → z.shelf ≤ s.now) (h2 : ∀ u, z.up = some u → u.acked = false → u.rank < 3) : Well (deed s k z) := by
 have ok := W.at hk;unfold AT.deed
 cases hu : z.up with
 | none =>
  simp only;exact W.raise hk hu ok.1 (h1 hu)
 | some u =>
  simp only
  split
  ·refine Well.loud ?_ _;exact W.event hk (by rw [hu]; exact .again u 0) ⟨ok.1, fun v e => by cases e; exact ok.2 u hu⟩
  ·rename_i ha;have ha : u.acked = false := by simpa using ha
   refine Well.loud ?_ _;exact W.event hk (by rw [hu]; exact .grew u _ 0 ha) ⟨ok.1, fun v e => by cases e; exact ⟨by show u.rank + 1 ≤ 3; have := h2 u hu ha; omega, (ok.2 u hu).2⟩⟩
theorem Q7 (c d : Nat) (x : Kind) : ∃ w : Up → Nat, (count c d x).up = x.up.map fun u => { u with wait := w u } := by
 unfold count
 cases hu : x.up with
 | none =>
  simp only
  split
  ·exact ⟨fun _ => 0, by simp [hu]⟩
  ·exact ⟨fun _ => 0, by rw [hu]; rfl⟩
 | some u =>
  simp only
  split
  ·exact ⟨fun v => v.wait + d, rfl⟩
  ·exact ⟨fun v => v.wait, by rw [hu]; rfl⟩
theorem Oe (c d : Nat) (x : Kind) : (count c d x).rank = x.rank ∧ (count c d x).shelf = x.shelf := by
 unfold count
 split <;> (split <;> exact ⟨rfl, rfl⟩)
theorem Well.count {s : St} {k c d : Nat} {x : Kind} (W : Well s) (hk : s.kinds[k]? = some x) : Well (Au s k (count c d x)) := by
 obtain ⟨w, hw⟩ := Q7 c d x;have ok := W.at hk;refine W.put hk ⟨w, hw⟩ ⟨by rw [(Oe c d x).1]; exact ok.1, fun u hu => ?_⟩;rw [hw] at hu
 cases hx : x.up with
 | none => rw [hx] at hu; cases hu
 | some v =>
  rw [hx] at hu
  cases hu
  rw [(Oe c d x).2];exact ok.2 v hx
theorem Well.cntAll {s : St} (W : Well s) (c d : Nat) : ∀ n, n ≤ s.kinds.length → Well ((Be n).foldl (cnt s.kinds c d) s)
 | 0, _ => W
 | n + 1, h => by
  rw [Fc, Eo, Cu, Ko];have ih := Well.cntAll W c d n (by omega);have hx : s.kinds[n]? = some s.kinds[n] := Aq (by omega);unfold cnt;rw [hx];refine Well.count ih ?_;show ((Be n).foldl (cnt s.kinds c d) s).kinds[n]? = _;rw [Ly s.kinds c d n s (by omega) rfl];show ((s.kinds.take n).map (AT.count c d) ++ s.kinds.drop n)[n]? = _;have hl : ((s.kinds.take n).map (AT.count c d)).length = n := by rw [Ac, Cg]; omega
  rw [Dz (by omega), hl, Oq, List.getElem?_drop, Nat.add_zero, hx]
theorem Well.adv {s : St} (W : Well s) (d : Nat) : Well (adv s d) := by
 unfold AT.adv;refine Well.lapse ?_;have h := W.cntAll s.now d s.kinds.length (Ak _);rw [Ly s.kinds s.now d s.kinds.length s (Ak _) rfl] at h;rw [Cf, List.drop_length, B8] at h;exact h.other rfl rfl rfl rfl rfl (Gn _ _)
def tf (xs : List Kind) (c d : Nat) (s : St) (i : Nat) : St := (Be i).foldl (turn xs c d) s
theorem Qo (xs : List Kind) (c d : Nat) (s : St) (i : Nat) : tf xs c d s (i + 1) = turn xs c d (tf xs c d s i) i := by
 unfold tf;rw [Fc, Eo, Cu, Ko]
theorem Afp (xs : List Kind) (c d : Nat) (s : St) : ∀ i, (tf xs c d s i).now = s.now
 | 0 => rfl
 | i + 1 => by rw [Qo, Yp, Afp]
theorem X2 (xs : List Kind) (c d : Nat) (s : St) : ∀ i k, i ≤ k → (tf xs c d s i).kinds[k]? = s.kinds[k]?
 | 0, _, _ => rfl
 | i + 1, k, h => by rw [Qo, Sj _ _ _ _ (by omega), X2 xs c d s i k (by omega)]
theorem Aby {c d : Nat} {x : Kind} (h : due c x = some d) (hu : x.up = none) : x.shelf ≤ c + d := by
 unfold due at h;rw [hu] at h;simp only at h
 split at h
 ·have := Ah h; omega
 ·cases h
theorem Af4 {c d : Nat} {x : Kind} {u : Up} (h : due c x = some d) (hu : x.up = some u) (ha : u.acked = false) : u.rank < 3 := by
 unfold due at h;rw [hu] at h;simp only at h
 split at h
 ·rename_i hl;unfold Fd at hl;rw [ha] at hl;simp only [D0, if_false] at hl
  split at hl
  ·assumption
  ·omega
 ·cases h
theorem Aa9 {s : St} {d k : Nat} {x : Kind} (h : s.kinds[k]? = some x) : (adv s d).kinds[k]? = some (count s.now d x) := by
 unfold adv;rw [Gv];show (s.kinds.map (count s.now d))[k]? = _;rw [Ap, h];rfl
theorem Ai7 {s : St} {d : Nat} : (adv s d).now = s.now + d := Q1 _
theorem Well.tf {s : St} (W : Well s) (d : Nat) : ∀ i, i ≤ s.kinds.length → Well (AT.tf s.kinds s.now d (AT.adv s d) i)
 | 0, _ => W.adv d
 | i + 1, h => by
  have ih := Well.tf W d i (by omega);rw [Qo];have hx : s.kinds[i]? = some s.kinds[i] := Aq (by omega);unfold turn;rw [hx];simp only
  split
  ·rename_i hd;refine ih.deed ?_ ?_ ?_
   ·rw [X2 _ _ _ _ _ _ (Ak _), Aa9 hx]
   ·intro hu;obtain ⟨w, hw⟩ := Q7 s.now d s.kinds[i];rw [Afp, Ai7, (Oe _ _ _).2];refine Aby hd ?_;rw [hw] at hu
    cases hq : s.kinds[i].up with
    | none => rfl
    | some v => rw [hq] at hu; cases hu
   ·intro u hu ha;obtain ⟨w, hw⟩ := Q7 s.now d s.kinds[i];rw [hw] at hu
    cases hq : s.kinds[i].up with
    | none => rw [hq] at hu; cases hu
    | some v =>
     rw [hq] at hu
     cases hu
     exact Af4 (u := v) hd hq ha
  ·exact ih
theorem Ahq {s : St} (hf : Ac8 s) {d n : Nat} (hd : 1 ≤ d) (hn : d ≤ n) (hg : ∀ x ∈ s.kinds, ∀ m, due s.now x = some m → d ≤ m) : seconds (n - d) (tf s.kinds s.now d (adv s d) s.kinds.length) = seconds n s := by
 have e := Tu hf hd hg;show seconds (n - d) ((numbers s).foldl _ _) = _;rw [← e, ← W0]
 congr 1
 omega
structure Aal {α : Type} (f : α → α → Bool) (l : List α) : Prop where
 tot : ∀ a ∈ l, ∀ b ∈ l, a ≠ b → f a b = true ∨ f b a = true
 asym : ∀ a ∈ l, ∀ b ∈ l, f a b = true → f b a = true → False
 trans : ∀ a ∈ l, ∀ b ∈ l, ∀ c ∈ l, f a b = true → f b c = true → f a c = true
theorem Aal.sub {α : Type} {f : α → α → Bool} {l m : List α} (h : Aal f l) (s : ∀ a ∈ m, a ∈ l) : Aal f m :=
 ⟨fun a ha b hb => h.tot a (s a ha) b (s b hb), fun a ha b hb => h.asym a (s a ha) b (s b hb), fun a ha b hb c hc => h.trans a (s a ha) b (s b hb) c (s c hc)⟩
theorem Qc {α : Type} {f : α → α → Bool} {x : α} : ∀ {l : List α}, Aal f (x :: l) → x ∉ l → l.Pairwise (fun a b => f a b = true) → (insertBy f x l).Pairwise (fun a b => f a b = true)
 | [], _, _, _ => by unfold insertBy; simp
 | y :: l, h, nx, p => by
  unfold insertBy;obtain ⟨p1, p2⟩ := J4.mp p
  split
  ·rename_i hf;refine J4.mpr ⟨fun z hz => ?_, p⟩
   rcases Az.mp hz with rfl | hz
   ·exact hf
   ·exact h.trans x (by simp) y (by simp) z (by simp [hz]) hf (p1 z hz)
  ·rename_i hf;refine J4.mpr ⟨fun z hz => ?_, Qc (h.sub fun a ha => ?_) (fun q => nx (Am _ q)) p2⟩
   ·have hz2 : z ∈ x :: l := (Kf (f := f) (x := x) (l := l)).mem_iff.mp hz
    rcases Az.mp hz2 with rfl | hz2
    ·rcases h.tot z (by simp) y (by simp) (fun e => nx (by rw [e]; simp)) with q | q
     ·exact absurd q hf
     ·exact q
    ·exact p1 z hz2
   ·rcases Az.mp ha with rfl | ha
    ·simp
    ·simp [ha]
theorem Qs {α : Type} {f : α → α → Bool} : ∀ {l : List α}, Aal f l → l.Nodup → (sortBy f l).Pairwise (fun a b => f a b = true)
 | [], _, _ => by unfold sortBy; simp
 | x :: l, h, nd => by
  unfold sortBy;obtain ⟨n1, n2⟩ := Bt.mp nd;have hp := E3 (f := f) l;refine Qc (h.sub fun a ha => ?_) (fun q => n1 (hp.mem_iff.mp q)) (Qs (h.sub fun a ha => Am _ ha) n2)
  rcases Az.mp ha with rfl | ha
  ·simp
  ·exact Am _ (hp.mem_iff.mp ha)
theorem V5 {α : Type} {f : α → α → Bool} : ∀ {l m : List α}, Aal f l → l.Perm m → l.Pairwise (fun a b => f a b = true) → m.Pairwise (fun a b => f a b = true) → l = m
 | [], m, _, p, _, _ => (List.nil_perm.mp p).symm
 | x :: l, [], _, p, _, _ => absurd (List.perm_nil.mp p) (by simp)
 | x :: l, y :: m, h, p, hl, hm => by
  obtain ⟨l1, l2⟩ := J4.mp hl;obtain ⟨m1, m2⟩ := J4.mp hm;have e : x = y := by
   have hx : x ∈ y :: m := p.mem_iff.mp (by simp);have hy : y ∈ x :: l := p.mem_iff.mpr (by simp)
   rcases Az.mp hx with e | hx
   ·exact e
   ·rcases Az.mp hy with e | hy'
    ·exact e.symm
    ·exact (h.asym x (by simp) y hy (l1 y hy') (m1 x hx)).elim
  subst e;rw [V5 (h.sub fun a ha => Am _ ha) (List.Perm.cons_inv p) l2 m2]
theorem Mc {α : Type} {f : α → α → Bool} {l m : List α} (h : Aal f l) (nd : l.Nodup) (p : m.Perm l) (hm : m.Pairwise (fun a b => f a b = true)) : m = sortBy f l :=
 V5 (h.sub fun a ha => p.mem_iff.mp ha) (p.trans (E3 l).symm) hm (Qs h nd)
def Aia (l : List Row) : Prop := ∀ a ∈ l, ∀ b ∈ l, a.seq = b.seq → a = b
theorem S0 {l : List Row} (h : Aia l) : Aal older l := by
 unfold older;refine ⟨fun a ha b hb n => ?_, fun a ha b hb h1 h2 => ?_, fun a ha b hb c hc h1 h2 => ?_⟩
 ·have : a.seq ≠ b.seq := fun e => n (h a ha b hb e);simp only [decide_eq_true_eq];omega
 ·simp only [decide_eq_true_eq] at h1 h2;omega
 ·simp only [decide_eq_true_eq] at h1 h2 ⊢;omega
theorem Kr {a b : Row} : ahead a b = true ↔ (a.acked = false ∧ b.acked = true) ∨ (a.acked = b.acked ∧ (b.rank < a.rank ∨ (a.rank = b.rank ∧ a.seq < b.seq))) := by
 unfold ahead
 cases ha : a.acked <;> cases hb : b.acked <;> simp
 all_goals
  by_cases e : a.rank = b.rank
  ·simp [e]
  ·simp [e]
theorem Zr {l : List Row} (h : Aia l) : Aal ahead l := by
 refine ⟨fun a ha b hb n => ?_, fun a ha b hb h1 h2 => ?_, fun a ha b hb c hc h1 h2 => ?_⟩
 ·have hs : a.seq ≠ b.seq := fun e => n (h a ha b hb e);rw [Kr, Kr]
  cases ha : a.acked <;> cases hb : b.acked <;> simp
  all_goals omega
 ·rw [Kr] at h1 h2
  cases ha : a.acked <;> cases hb : b.acked <;> simp [ha, hb] at h1 h2
  all_goals omega
 ·rw [Kr] at h1 h2 ⊢
  cases ha : a.acked <;> cases hb : b.acked <;> cases hc : c.acked <;> simp [ha, hb, hc] at h1 h2 ⊢
  all_goals omega
theorem Well.apart {s : St} (W : Well s) : Aia (rowsByNumber s) := fun a ha b hb e => by
 have h1 := ((Dl s).iff_ a).mp ha;have h2 := ((Dl s).iff_ b).mp hb;rw [C6] at h1 h2
 cases hu : Eg s a.kind with
 | none => rw [hu] at h1; cases h1
 | some u =>
  cases hv : Eg s b.kind with
  | none => rw [hv] at h2; cases h2
  | some v =>
   rw [hu] at h1;rw [hv] at h2;have e1 : (⟨a.kind, u.seq, u.rank, u.acked⟩ : Row) = a := Ah h1;have e2 : (⟨b.kind, v.seq, v.rank, v.acked⟩ : Row) = b := Ah h2;have hs : u.seq = v.seq := by rw [← e1, ← e2] at e; exact e
   have hk := W.seqs _ _ u v hu hv hs;rw [hk, hv] at hu;have huv := Ah hu;rw [← e1, ← e2, huv, hk]
theorem Ei (s : St) : (rowsByNumber s).Nodup := by
 have u : J2 (rowsByNumber s) := (Dl s).uniq;exact List.Pairwise.of_map (fun r : Row => r.kind) (fun a b q e => q (by rw [e])) u
theorem Acq {s : St} (W : Well s) {l : List Row} (p : l.Perm (rowsByNumber s)) (h : l.Pairwise fun a b => a.seq < b.seq) : l = rows s :=
 Mc (S0 W.apart) (Ei s) p (h.imp fun q => by unfold older; exact decide_eq_true q)
theorem Ae3 {s : St} (W : Well s) {l : List Row} (p : l.Perm (rowsByNumber s)) (h : l.Pairwise fun a b => ahead a b = true) : l = shown s :=
 Mc (Zr W.apart) (Ei s) p h
theorem Ah1 {s : St} (W : Well s) : (rows s).Pairwise fun a b => a.seq < b.seq := (Qs (S0 W.apart) (Ei s)).imp fun {a b} q => by unfold older at q; exact of_decide_eq_true q
theorem Ui {α β : Type} {G : α → β} : ∀ {R : List α} {ps : List β}, ps.Perm (R.map G) → ∃ R' : List α, R'.Perm R ∧ ps = R'.map G
 | [], ps, h => ⟨[], .refl _, by rw [Vo, List.perm_nil] at h; rw [h]; rfl⟩
 | a :: R, ps, h => by
  have hm : G a ∈ ps := h.mem_iff.mpr (by simp);obtain ⟨l1, l2, e⟩ := List.append_of_mem hm;subst e;have h2 : (l1 ++ l2).Perm (R.map G) := by
   have : (G a :: (l1 ++ l2)).Perm (G a :: R.map G) := (List.perm_middle.symm).trans h;exact this.cons_inv
  obtain ⟨R', p, e⟩ := Ui h2;obtain ⟨R1, R2, e1, e2, e3⟩ := List.map_eq_append_iff.mp e.symm;refine ⟨R1 ++ a :: R2, ?_, ?_⟩
  ·rw [e1] at p;exact (List.perm_middle).trans (p.cons a)
  ·rw [Bb, Bc, e2, e3]
theorem Sy {α β : Type} {G : α → β} : ∀ {l m : List α}, (∀ a ∈ l, ∀ b ∈ m, G a = G b → a = b) → l.map G = m.map G → l = m
 | [], [], _, _ => rfl
 | [], _ :: _, _, h => by simp at h
 | _ :: _, [], _, h => by simp at h
 | a :: l, b :: m, hi, h => by
  rw [Bc, Bc] at h
  injection h with h1 h2
  rw [hi a A0 b A0 h1, Sy (fun x hx y hy => hi x (Am _ hx) y (Am _ hy)) h2]
theorem Sv {α κ : Type} [DecidableEq κ] {key : α → κ} {R : α → α → Prop} : ∀ {l : List α}, (∀ c, (l.filter fun a => decide (key a = c)).Pairwise R) → l.Pairwise fun a b => key a = key b → R a b
 | [], _ => .nil
 | a :: l, h => by
  refine .cons (fun b hb e => ?_) (Sv fun c => ?_)
  ·have := h (key a);rw [Bu, if_pos (by simp)] at this;exact List.rel_of_pairwise_cons this (Bn.mpr ⟨hb, by simp [e]⟩)
  ·have := h c;rw [Bu] at this
   split at this
   ·exact this.of_cons
   ·exact this
theorem N7 {α β : Type} {f : α → β} : ∀ {l : List α}, (l.map f).Nodup → l.Nodup
 | [], _ => .nil
 | a :: l, h => by
  rw [Bc] at h;obtain ⟨h1, h2⟩ := Bt.mp h;exact Bt.mpr ⟨fun z => h1 (Ay.mpr ⟨a, z, rfl⟩), N7 h2⟩
theorem Agn {s : St} (W : Well s) {l : List Row} (p : l.Perm (rowsByNumber s)) (h : l.Pairwise fun a b => (a.seq : Int) ≤ b.seq) : l = rows s := by
 refine Acq W p ?_;have nd : l.Nodup := p.nodup_iff.mpr (Ei s);refine (h.and nd).imp_of_mem fun {a b} ha hb q => ?_;obtain ⟨h1, h2⟩ := q
 by_cases e : a.seq = b.seq
 ·exact absurd (W.apart a (p.mem_iff.mp ha) b (p.mem_iff.mp hb) e) h2
 ·omega
def urg (r : Row) : Int × Int := (if r.acked then 1 else 0, -(r.rank : Int))
theorem Ae2 {s : St} (W : Well s) {l : List Row} (p : l.Perm (rows s)) (h : l.Pairwise fun a b => (urg a).1 < (urg b).1 ∨ ((urg a).1 = (urg b).1 ∧ (urg a).2 ≤ (urg b).2))
  (hf : ∀ c, (l.filter fun r => decide (urg r = c)) = (rows s).filter fun r => decide (urg r = c)) : l = shown s := by
 have p2 : l.Perm (rowsByNumber s) := p.trans (E3 _);have hp : l.Pairwise fun a b => urg a = urg b → a.seq < b.seq := Sv fun c => by
  have := hf c;have h2 : (l.filter fun a => decide (urg a = c)).Pairwise fun a b => a.seq < b.seq := by
   rw [this];exact (Ah1 W).sublist Aai
  exact h2
 refine Ae3 W p2 ((h.and hp).imp fun {a b} q => ?_);obtain ⟨h1, h2⟩ := q;rw [Kr];unfold urg at h1 h2;simp only at h1 h2
 cases ha : a.acked <;> cases hb : b.acked <;> simp only [ha, hb, D0, if_false, if_true] at h1 h2 ⊢
 ·refine .inr ⟨trivial, ?_⟩
  by_cases e : a.rank = b.rank
  ·exact .inr ⟨e, h2 (by rw [e])⟩
  ·rcases h1 with h1 | h1
   ·omega
   ·exact .inl (by omega)
 ·exact .inl ⟨trivial, trivial⟩
 ·rcases h1 with h1 | h1 <;> omega
 ·refine .inr ⟨trivial, ?_⟩
  by_cases e : a.rank = b.rank
  ·exact .inr ⟨e, h2 (by rw [e])⟩
  ·rcases h1 with h1 | h1
   ·omega
   ·exact .inl (by omega)
theorem Y2 (s : St) : (rows s).length = (rowsByNumber s).length := (E3 _).length_eq
theorem Sr {s : St} {r : Row} (h : r ∈ rows s) : rowOf s r.kind = some r := ((Fh s).iff_ r).mp h
theorem Kc {s : St} {r : Row} (h : r ∈ rowsByNumber s) : rowOf s r.kind = some r := ((Dl s).iff_ r).mp h
theorem Ah2 {s : St} {r : Row} (h : r ∈ shown s) : rowOf s r.kind = some r := Kc ((E3 _).mem_iff.mp h)
def Iz : Nat → List Row → List Row
 | _, [] => []
 | n, r :: l => { r with seq := n } :: Iz (n + 1) l
theorem Sk : ∀ (l : List Row) (n : Nat) (r : Row), Iz n (l ++ [r]) = Iz n l ++ [{ r with seq := n + l.length }]
 | [], n, r => rfl
 | a :: l, n, r => by
  show { a with seq := n } :: Iz (n + 1) (l ++ [r]) = _;rw [Sk l (n + 1) r, A2, show n + 1 + l.length = n + (l.length + 1) by omega];rfl
theorem Qp : ∀ (l : List Row) (n : Nat), (Iz n l).length = l.length
 | [], _ => rfl
 | a :: l, n => by show (Iz (n + 1) l).length + 1 = _; rw [Qp l]; rfl
theorem Mn : ∀ (l : List Row) (n i : Nat), (Iz n l)[i]? = (l[i]?).map fun r => { r with seq := n + i }
 | [], _, i => by simp [Iz]
 | a :: l, n, 0 => rfl
 | a :: l, n, i + 1 => by
  show (Iz (n + 1) l)[i]? = _;rw [Mn l (n + 1) i, List.getElem?_cons_succ, show n + 1 + i = n + (i + 1) by omega]
theorem Lh : ∀ (l : List Row) (n : Nat), (Iz n l).map (·.kind) = l.map (·.kind)
 | [], _ => rfl
 | a :: l, n => by
  show a.kind :: (Iz (n + 1) l).map (·.kind) = _;rw [Lh l];rfl
theorem J7 : ∀ (l : List Row) (n : Nat) (r : Row) (s : St), renumbered n (l ++ [r]) s = renumbered (n + l.length) [r] (renumbered n l s)
 | [], n, r, s => rfl
 | a :: l, n, r, s => by
  rw [Ld, renumbered, J7 l (n + 1) r, A2, show n + 1 + l.length = n + (l.length + 1) by omega];rfl
theorem Pj {s : St} {n : Nat} {r : Row} {x : Kind} {u : Up} (hx : s.kinds[r.kind]? = some x) (hu : x.up = some u) : renumbered n [r] s = Au s r.kind { x with up := some { u with seq := n } } := by
 rw [renumbered, hx];simp only [hu];rfl
theorem Y3 {s t : St} (h : s.kinds = t.kinds) : rows s = rows t := by
 have e : ∀ k, rowOf s k = rowOf t k := fun k => by unfold rowOf; rw [h]
 unfold rows rowsByNumber numbers;rw [h]
 congr 2
 funext k
 exact e k
theorem Y5 {s : St} (W : Well s) : Iz 0 (rows s) = rows (renumbered 0 (rows s) s) := by
 have Wr := W.renew;have hk : (renew s).kinds = (renumbered 0 (rows s) s).kinds := rfl;rw [← Y3 hk];have h := Ex (rows s) 0 s (Fh s).uniq G0;have hmem : ∀ r, r ∈ Iz 0 (rows s) ↔ rowOf (renew s) r.kind = some r := fun r => by
  constructor
  ·intro hr;obtain ⟨i, hi⟩ := B2 hr;rw [Mn] at hi
   cases hq : (rows s)[i]? with
   | none => rw [hq] at hi; cases hi
   | some q =>
    rw [hq] at hi;have e : r = { q with seq := i } := by have := Ah hi; rw [← this]; simp
    have hqm := As hq;have hro := Sr hqm;have hfi : (rows s).findIdx? (fun r => r.kind == q.kind) = some i := by
     rw [Aca];obtain ⟨hlt, heq⟩ := Af.mp hq;refine ⟨hlt, by rw [heq]; simp, fun j hj => ?_⟩;have : ¬ (rows s)[j].kind = q.kind := fun z => by
      have e1 : ((rows s).map (·.kind))[j]? = some q.kind := by rw [Ap, Aq (by omega)]; exact congrArg some z
      have e2 : ((rows s).map (·.kind))[i]? = some q.kind := by rw [Ap, hq]; rfl
      have nd : ((rows s).map (·.kind)).Nodup := (Fh s).uniq;obtain ⟨a1, a2⟩ := Af.mp e1;obtain ⟨b1, b2⟩ := Af.mp e2;have := (Afh nd (h₀ := a1) (h₁ := b1)).mp (a2.trans b2.symm);omega
     simpa using this
    have hk2 := (h q.kind).1;rw [hfi] at hk2;simp only [Adl] at hk2;rw [e];show rowOf (renew s) q.kind = some { q with seq := i };rw [C6] at hro ⊢;unfold Eg at hro ⊢;rw [hk, hk2]
    cases hx : s.kinds[q.kind]? with
    | none => rw [hx] at hro; cases hro
    | some x =>
     rw [hx] at hro;have hro : (x.up).map _ = some q := hro;show (Option.map _ (numbered i x).up) = _;unfold numbered;simp only
     cases hu : x.up with
     | none => rw [hu] at hro; cases hro
     | some u =>
      rw [hu] at hro;have := Ah hro;rw [← this];rfl
  ·intro hr;rw [C6] at hr
   cases hu : Eg (renew s) r.kind with
   | none => rw [hu] at hr; cases hr
   | some u =>
    rw [hu] at hr;have er := Ah hr;have hu' : Eg (renumbered 0 (rows s) s) r.kind = some u := hu;obtain ⟨q, v, hq, hqk, hv, e⟩ := Pk hu';have hro := Sr (As hq);rw [hqk, C6, hv] at hro;have eq := Ah hro;refine As (i := u.seq) ?_;rw [Mn, hq];show some _ = some r
    congr 1
    rw [← er, ← eq, e];simp
 refine Acq Wr ?_ ?_
 ·have nd1 : (Iz 0 (rows s)).Nodup := by
   have : ((Iz 0 (rows s)).map (·.kind)).Nodup := by rw [Lh]; exact (Fh s).uniq
   exact N7 this
  refine (Aif nd1 (Ei _)).mpr fun r => ?_;rw [hmem, (Dl (renew s)).iff_]
 ·rw [Aig];intro i j hi hj hij;have e1 := Mn (rows s) 0 i;have e2 := Mn (rows s) 0 j;have l := Qp (rows s) 0;rw [Aq hi, Aq (by omega)] at e1;rw [Aq hj, Aq (by omega)] at e2;rw [Ah e1, Ah e2];simp;exact hij
theorem Dq (s : St) : (rowsByNumber s).length ≤ s.kinds.length := by
 unfold rowsByNumber numbers;have := Rj (fun k => rowOf s k) (Be s.kinds.length)
 rwa [Ct] at this
theorem Sq (s : St) : ∀ l : List Nat, (l.filterMap fun k => rowOf s k).map (·.kind) = l.filter fun k => isUp s k
 | [] => rfl
 | k :: l => by
  rw [Ci, Bu, ← Sq s l, C6, Kh]
  cases Eg s k with
  | none => rfl
  | some u => rfl
theorem Jr (s : St) : raised s = (rowsByNumber s).map (·.kind) := (Sq s _).symm
def V0 (s : St) (k : Nat) : Nat := match s.kinds[k]? with
 | some x => x.stops
 | none => 0
theorem Yr (s : St) : stops s = (rowsByNumber s).foldl (fun m r => m ||| V0 s r.kind) 0 := by
 unfold stops;rw [Jr, List.foldl_map]
 congr 1
 funext m r
 unfold V0
 cases s.kinds[r.kind]? with
 | none => simp
 | some x => rfl
theorem Zt {R : Nat → Nat → Prop} (tr : ∀ a b c, R a b → R b c → R a c) (ir : ∀ a, ¬ R a a) : ∀ l : List Nat, l ≠ [] → ∃ k ∈ l, ∀ a ∈ l, ¬ R a k
 | [], h => absurd rfl h
 | [x], _ => ⟨x, by simp, fun a ha => by rw [A9.mp ha]; exact ir x⟩
 | x :: y :: l, _ => by
  obtain ⟨m, hm, h⟩ := Zt tr ir (y :: l) (by simp)
  by_cases e : R x m
  ·refine ⟨x, by simp, fun a ha hax => ?_⟩
   rcases Az.mp ha with rfl | ha
   ·exact ir _ hax
   ·exact h a ha (tr _ _ _ hax e)
  ·refine ⟨m, Am _ hm, fun a ha => ?_⟩
   rcases Az.mp ha with rfl | ha
   ·exact e
   ·exact h a ha
def Hi (s : St) (left : List Nat) : Option Nat := left.find? fun k => (befores s k).all fun a => !left.contains a
theorem Z1 {s : St} (W : Well s) {left : List Nat} (hl : ∀ k ∈ left, k ∈ raised s) {k : Nat} (hk : k ∈ left) : (((befores s k).all fun a => !left.contains a) = true) ↔ ((hinder s k).any fun a => left.contains a) = false := by
 have hup : ∀ a ∈ left, a < s.kinds.length ∧ isUp s a = true := fun a ha => by
  have := hl a ha;unfold raised numbers at this;obtain ⟨h1, h2⟩ := Bn.mp this;exact ⟨Cp.mp h1, h2⟩
 have hh : ∀ a, a ∈ left → (a ∈ hinder s k ↔ a ∈ befores s k) := fun a ha => by
  obtain ⟨h1, h2⟩ := hup a ha;unfold hinder behind numbers;simp only [Bn, Cp, Bv]
  constructor
  ·intro z; exact z.1.2
  ·intro z; exact ⟨⟨h1, z⟩, h2⟩
 rw [Fl, Bool.eq_false_iff, ne_eq, List.any_eq_true]
 constructor
 ·rintro h ⟨a, ha, hc⟩;have hal : a ∈ left := Bv.mp hc;have := h a ((hh a hal).mp ha);rw [hc] at this
  cases this
 ·intro h a ha
  cases hc : left.contains a with
  | false => rfl
  | true => exact absurd ⟨a, (hh a (Bv.mp hc)).mpr ha, hc⟩ h
theorem Se {s : St} (W : Well s) {left : List Nat} (hl : ∀ k ∈ left, k ∈ raised s) (hne : left ≠ []) : ∃ k, Hi s left = some k := by
 obtain ⟨k, hk, h⟩ := Zt (R := fun a b => Bef s.links a b) (fun _ _ _ => Bef.trans) W.circ left hne
 cases hn : Hi s left with
 | some j => exact ⟨j, rfl⟩
 | none =>
  have := Aap.mp hn k hk;refine absurd ?_ this;rw [Fl];intro a ha;have hkl : k < s.kinds.length := by
   have := hl k hk;unfold raised numbers at this;exact Cp.mp (Bn.mp this).1
  have hb := (Jt W.lin W.lim hkl W.circ).mp ha
  cases hc : left.contains a with
  | false => rfl
  | true => exact absurd hb (h a (Bv.mp hc))
theorem Zs (s : St) : ∀ n, lineUp s n [] = []
 | 0 => rfl
 | n + 1 => rfl
theorem Xn {s : St} {left : List Nat} {k : Nat} (h : Hi s left = some k) (n : Nat) : lineUp s (n + 1) left = k :: lineUp s n (left.filter fun a => a != k) := by
 unfold Hi at h;rw [lineUp, h]
end AT
namespace AT
open PySem PySem.Spec PyProof.Rows L2
theorem Aih : ∀ {ks : List Str} {vs : List V} {i : Nat} {f : Str}, ks.Nodup → vs.length = ks.length → ks[i]? = some f → (ks.zip vs).lookup f = vs[i]?
 | [], _, _, _, _, _, hf => by simp at hf
 | k :: ks, [], _, _, _, hl, _ => by simp at hl
 | k :: ks, v :: vs, 0, f, nd, hl, hf => by
  have e : k = f := by simpa using hf
  subst e;simp [Ee]
 | k :: ks, v :: vs, i + 1, f, nd, hl, hf => by
  obtain ⟨h1, h2⟩ := Bt.mp nd;have hf' : ks[i]? = some f := by simpa using hf
  have ne : ¬ f = k := fun e => h1 (by rw [← e]; exact As hf');have hb : (f == k) = false := beq_eq_false_iff_ne.mpr ne;show Ee f ((k, v) :: ks.zip vs) = vs[i]?;simp only [Ee, hb];exact Aih h2 (by simpa using hl) hf'
theorem zput : ∀ {ks : List Str} {vs : List V} {i : Nat} {f : Str} {y : V}, ks.Nodup → vs.length = ks.length → ks[i]? = some f → J8 f y (ks.zip vs) = ks.zip (vs.set i y)
 | [], _, _, _, _, _, _, hf => by simp at hf
 | k :: ks, [], _, _, _, _, hl, _ => by simp at hl
 | k :: ks, v :: vs, 0, f, y, nd, hl, hf => by
  have e : k = f := by simpa using hf
  subst e;show (if k = k then (k, y) :: ks.zip vs else _) = _;rw [if_pos rfl];rfl
 | k :: ks, v :: vs, i + 1, f, y, nd, hl, hf => by
  obtain ⟨h1, h2⟩ := Bt.mp nd;have hf' : ks[i]? = some f := by simpa using hf
  have ne : ¬ k = f := fun e => h1 (by rw [e]; exact As hf');show (if k = f then _ else (k, v) :: J8 f y (ks.zip vs)) = _;rw [if_neg ne, zput h2 (by simpa using hl) hf'];rfl
theorem Le {ks : List Str} {vs : List V} {f : Str} (h : f ∉ ks) : (ks.zip vs).lookup f = none := by
 induction ks generalizing vs with
 | nil => rfl
 | cons k ks ih =>
  cases vs with
  | nil => rfl
  | cons v vs =>
   have hb : (f == k) = false := beq_eq_false_iff_ne.mpr fun e => h (by rw [e]; exact A0);show Ee f ((k, v) :: ks.zip vs) = none;simp only [Ee, hb];exact ih fun z => h (Am _ z)
def Ob (C : Addr) (ks : List Str) (H : Hp) (p : Addr) (vs : List V) : Prop := ∃ dx, H p = some (.ins C dx (ks.zip vs)) ∧ vs.length = ks.length
structure CK (K : Ad) (C : Addr) (ks : List Str) : Prop where
 cls : Cls K C
 no : ∀ f ∈ ks, Je K C f
 nd : ks.Nodup
 few : ks.length < 1000
theorem CK.n {K : Ad} {C : Addr} {ks : List Str} (c : CK K C ks) (i : Nat) {f : Str} (hi : ks[i]? = some f) : Je K C f := c.no f (As hi)
theorem CK.l {K : Ad} {C : Addr} {ks : List Str} {vs : List V} (c : CK K C ks) (l : vs.length = ks.length) (i : Nat) {f : Str} (hi : ks[i]? = some f) : (ks.zip vs).lookup f = vs[i]? := Aih c.nd l hi
def F6 (p : Addr) (H H' : Hp) : Prop := ∀ b, b ≠ p → H' b = H b
theorem F6.trans {p : Addr} {H H1 H2 : Hp} (a : F6 p H H1) (b : F6 p H1 H2) : F6 p H H2 := fun c hc => (b c hc).trans (a c hc)
theorem F6.upd {p : Addr} {H : Hp} {o : HO} : F6 p H (upd H p o) := fun b hb => Aw hb
section
variable {K : Ad} {C C' p q : Addr} {ks ks' : List Str} {vs vs' : List V} {H H' : Hp} {f : Str} {v y : V} {i : Nat}
theorem X1 (h : vs.length = ks.length) : (ks.zip vs).length = ks.length := by rw [List.length_zip, h, Vm]
theorem Ob.put {Q : Hp → Prop} (o : Ob C ks H p vs) (c : CK K C ks) (i : Nat) (hi : ks[i]? = some f) (k : ∀ H', Ob C ks H' p (vs.set i y) → F6 p H H' → Q H') :
  ∃ a C dx fs, V.ref p = .ref a ∧ H a = some (.ins C dx fs) ∧ Cls K C ∧ Je K C f ∧ fs.length < 1000 ∧ Q (upd H a (.ins C dx (J8 f y fs))) := by
 obtain ⟨dx, h, l⟩ := o;refine ⟨p, C, dx, _, rfl, h, c.cls, c.no f (As hi), by rw [X1 l]; exact c.few, k _ ⟨dx, ?_, by rw [Dh]; exact l⟩ F6.upd⟩;rw [Ao, zput c.nd l hi]
theorem Ob.augPut {Q : Hp → Prop} (o : Ob C ks H p vs) (c : CK K C ks) (i : Nat) (hi : ks[i]? = some f) (k : ∀ H', Ob C ks H' p (vs.set i y) → F6 p H H' → Q H') :
  ∃ dx' fs', H p = some (.ins C dx' fs') ∧ fs'.length < 1000 ∧ Q (L2.upd H p (.ins C dx' (J8 f y fs'))) := by
 obtain ⟨dx, h, l⟩ := o;refine ⟨dx, _, h, by rw [X1 l]; exact c.few, k _ ⟨dx, ?_, by rw [Dh]; exact l⟩ F6.upd⟩;rw [Ao, zput c.nd l hi]
theorem Ob.else (o : Ob C ks H q vs) (e : F6 p H H') (n : q ≠ p) : Ob C ks H' q vs := by
 obtain ⟨dx, h, l⟩ := o;exact ⟨dx, by rw [e q n]; exact h, l⟩
theorem Yl (h : vs.length = ks.length) : (ks.zip vs).map (·.1) = ks := by
 rw [show (fun x : Str × V => x.1) = Prod.fst from rfl, List.map_fst_zip (by omega)]
theorem Ob.apart (o : Ob C ks H p vs) (o' : Ob C' ks' H q vs') (h : ks ≠ ks') : p ≠ q := by
 rintro rfl;obtain ⟨dx, e, l⟩ := o;obtain ⟨dx', e', l'⟩ := o';rw [e] at e';have e2 : ks.zip vs = ks'.zip vs' := by
  have := Ah e'
  injection this
 exact h (by rw [← Yl l, e2, Yl l'])
def notIns (o : HO) : Prop := ∀ C dx fs, o ≠ .ins C dx fs
theorem Ob.off {o : HO} (ob : Ob C ks H p vs) (h : H q = some o) (n : notIns o) : q ≠ p := by
 rintro rfl;obtain ⟨dx, e, _⟩ := ob;rw [e] at h;exact n _ _ _ (Ah h).symm
end
theorem B4 {xs : List V} : notIns (.lst xs) := fun _ _ _ z => nomatch z
theorem D1 {xs : List (Key × V)} : notIns (.dK xs) := fun _ _ _ z => nomatch z
def New (H H' : Hp) : Prop := ∀ b o, H b = some o → H' b = some o
theorem New.trans {H H1 H2 : Hp} (a : New H H1) (b : New H1 H2) : New H H2 := fun c o h => b c o (a c o h)
theorem New.upd {H : Hp} {p : Addr} {o : HO} (h : H p = none) : New H (upd H p o) := fun b o' e => by rw [Aw (Av e h)]; exact e
theorem Ob.new {C p : Addr} {ks : List Str} {vs : List V} {H H' : Hp} (o : Ob C ks H p vs) (n : New H H') : Ob C ks H' p vs := let ⟨dx, h, l⟩ := o; ⟨dx, n _ _ h, l⟩
structure Cs where
 E : Addr
 S : Addr
 P : Addr
 L : Addr
 K : Addr
 T : Addr
def eK : List Str := ["number", "clock", "kind", "what", "rank"]
def sK : List Str := ["raised_by", "rank", "acknowledged"]
def pK : List Str := ["next_number", "events", "base"]
def lK : List Str := ["direct"]
def kK : List Str := ["number", "rank", "latching", "delay", "escalate", "again", "stops", "holds", "held", "shelved_to", "raised", "rank_now", "acknowledged", "waited", "raised_by"]
def tK : List Str := ["kinds", "links", "clock", "paper", "silent_to", "hidden_rank", "first"]
theorem Ahj : kK ≠ tK := by decide +kernel
theorem Akt : kK ≠ lK := by decide +kernel
theorem Ajg : kK ≠ pK := by decide +kernel
theorem Aku : kK ≠ eK := by decide +kernel
theorem Ajf : kK ≠ sK := by decide +kernel
theorem Ajd : tK ≠ lK := by decide +kernel
theorem Ahi : tK ≠ pK := by decide +kernel
theorem Akp : tK ≠ eK := by decide +kernel
theorem Ajc : tK ≠ sK := by decide +kernel
theorem Akr : pK ≠ lK := by decide +kernel
theorem Aks : pK ≠ eK := by decide +kernel
theorem Aje : pK ≠ sK := by decide +kernel
theorem Ajh : eK ≠ sK := by decide +kernel
theorem Akq : sK ≠ lK := by decide +kernel
structure AD where
 t : Addr
 kl : Addr
 ln : Addr
 dr : Addr
 pp : Addr
 el : Addr
 bd : Addr
 ks : List Addr
 ds : List (Nat × Addr × List Nat)
def B3 (u : Option O1) : Nat := match u with
 | none => 0
 | some u => u.rank
def Iy (u : Option O1) : Bool := match u with
 | none => false
 | some u => u.acked
def Mb (u : Option O1) : Nat := match u with
 | none => 0
 | some u => u.wait
def Rk (u : Option O1) : Nat := match u with
 | none => 0
 | some u => u.seq
def kv (i : Nat) (x : Bo) : List V := [.int i, .int x.rank, .int (if x.latching then 1 else 0), .int x.delay, .int x.escalate, .int x.again, .int x.stops, .bl x.cond, .int x.held, .int x.shelf, .bl x.up.isSome, .int (B3 x.up), .bl (Iy x.up), .int (Mb x.up), .int (Rk x.up)]
def ev (e : Dg) : List V := [.int e.seq, .int e.time, .int e.kind, .int e.what, .int e.rank]
def sv (r : Bk) : List V := [.int r.seq, .int r.rank, .bl r.acked]
def fv (o : Option Nat) : V := match o with
 | none => .non
 | some k => .int k
def Hw (now st hd : Nat) : Option (Nat × Nat) := if now < st then some (st, hd) else none
def nk (n : Nat) : Key := Jk (n : Int)
def tv (A : AD) (s : Al) (st hd : Nat) : List V := [.ref A.kl, .ref A.ln, .int s.now, .ref A.pp, .int st, .int hd, fv s.first]
structure Tab (c : Cs) (A : AD) (H : Hp) (s : Al) : Prop where
 tab : ∃ st hd : Nat, Ob c.T tK H A.t (tv A s st hd) ∧ s.silence = Hw s.now st hd
 kl : H A.kl = some (.lst (A.ks.map V.ref))
 klen : A.ks.length = s.kinds.length
 kin : ∀ i a x, A.ks[i]? = some a → s.kinds[i]? = some x → Ob c.K kK H a (kv i x)
 knd : A.ks.Nodup
 ln : Ob c.L lK H A.ln [.ref A.dr]
 dr : H A.dr = some (.dK (A.ds.map fun d => (nk d.1, V.ref d.2.1)))
 din : ∀ d ∈ A.ds, H d.2.1 = some (.dK (d.2.2.map fun a => (nk a, V.bl true)))
 dnd : (A.ds.map (·.2.1)).Nodup
 tells : L7 (A.ds.map fun d => (d.1, d.2.2)) s.links
 pp : Ob c.P pK H A.pp [.int s.seq, .ref A.el, .ref A.bd]
 el : ∃ es : List Addr, H A.el = some (.lst (es.map V.ref)) ∧ Paired (fun a e => Ob c.E eK H a (ev e)) es s.log
 bd : ∃ bs : List Addr, bs.Nodup ∧ H A.bd = some (.dK (List.zipWith (fun (a : Addr) (r : Bk) => (nk r.kind, V.ref a)) bs s.base)) ∧ Paired (fun a r => Ob c.S sK H a (sv r)) bs s.base
 nel : A.el ≠ A.kl
 nbd : A.bd ≠ A.dr
 nin : ∀ d ∈ A.ds, d.2.1 ≠ A.bd ∧ d.2.1 ≠ A.dr
def AD.own (A : AD) : List Addr := A.kl :: A.el :: A.dr :: A.bd :: A.ds.map (·.2.1)
def Bj (A : AD) (H H' : Hp) : Prop := ∀ b o, H b = some o → notIns o → b ∉ A.own → H' b = some o
theorem Bj.trans {A : AD} {H H1 H2 : Hp} (a : Bj A H H1) (b : Bj A H1 H2) : Bj A H H2 := fun c o h n m => b c o (a c o h n m) n m
theorem Bj.refl {A : AD} {H : Hp} : Bj A H H := fun _ _ h _ _ => h
theorem Bj.else {A : AD} {C p : Addr} {ks : List Str} {vs : List V} {H H' : Hp} (o : Ob C ks H p vs) (e : F6 p H H') : Bj A H H' := fun b u h n _ => by rw [e b (o.off h n)]; exact h
theorem Bj.new {A : AD} {H H' : Hp} (n : New H H') : Bj A H H' := fun b o h _ _ => n b o h
section
variable {c : Cs} {A : AD} {H H' : Hp} {s : Al}
theorem Cd {α β : Type} {F G : α → β → Prop} (f : ∀ a b, F a b → G a b) : ∀ {l : List α} {m : List β}, Paired F l m → Paired G l m
 | _, _, .nil => .nil
 | _, _, .cons r t => .cons (f _ _ r) (Cd f t)
theorem Tab.same (T : Tab c A H s) (h : ∀ b o, H b = some o → H' b = some o) : Tab c A H' s := by
 obtain ⟨st, hd, t1, t2⟩ := T.tab;obtain ⟨es, e1, e2⟩ := T.el;obtain ⟨bs, b0, b1, b2⟩ := T.bd;exact ⟨⟨st, hd, t1.new h, t2⟩, h _ _ T.kl, T.klen, fun i a x h1 h2 => (T.kin i a x h1 h2).new h, T.knd, T.ln.new h, h _ _ T.dr, fun d hd => h _ _ (T.din d hd), T.dnd, T.tells, T.pp.new h,
  ⟨es, h _ _ e1, Cd (fun _ _ o => o.new h) e2⟩, ⟨bs, b0, h _ _ b1, Cd (fun _ _ o => o.new h) b2⟩, T.nel, T.nbd, T.nin⟩
theorem Tab.kind (T : Tab c A H s) {k : Nat} {p : Addr} {x x' : Bo} (hk : A.ks[k]? = some p) (hx : s.kinds[k]? = some x) (e : F6 p H H') (o : Ob c.K kK H' p (kv k x')) : Tab c A H' (Au s k x') := by
 obtain ⟨st, hd, t1, t2⟩ := T.tab;obtain ⟨es, e1, e2⟩ := T.el;obtain ⟨bs, b0, b1, b2⟩ := T.bd;have op := T.kin k p x hk hx;refine ⟨⟨st, hd, t1.else e (op.apart t1 Ahj).symm, t2⟩, ?_, by rw [T.klen]; exact Dh.symm, fun i a y h1 h2 => ?_, T.knd, T.ln.else e (op.apart T.ln Akt).symm, ?_, fun d hd => ?_, T.dnd, T.tells, T.pp.else e (op.apart T.pp Ajg).symm,
  ⟨es, ?_, Cd (fun _ _ q => q.else e (op.apart q Aku).symm) e2⟩, ⟨bs, b0, ?_, Cd (fun _ _ q => q.else e (op.apart q Ajf).symm) b2⟩, T.nel, T.nbd, T.nin⟩
 ·rw [e _ (op.off T.kl B4)]; exact T.kl
 ·by_cases q : i = k
  ·subst q;have : a = p := Ah (h1.symm.trans hk);subst this;have h3 : (s.kinds.set i x')[i]? = some y := h2;rw [Bm (Af.mp hx).1] at h3
   cases h3
   exact o
  ·have h3 : (s.kinds.set k x')[i]? = some y := h2;rw [Bh (fun z => q z.symm)] at h3;exact (T.kin i a y h1 h3).else e fun z => q (Sf T.knd h1 (by rw [z]; exact hk))
 ·rw [e _ (op.off T.dr D1)]; exact T.dr
 ·rw [e _ (op.off (T.din d hd) D1)]; exact T.din d hd
 ·rw [e _ (op.off e1 B4)]; exact e1
 ·rw [e _ (op.off b1 D1)]; exact b1
theorem Tab.top (T : Tab c A H s) {s' : Al} {st' hd' : Nat} (e : F6 A.t H H') (o : Ob c.T tK H' A.t (tv A s' st' hd')) (hs : s'.silence = Hw s'.now st' hd')
  (h1 : s'.kinds = s.kinds) (h2 : s'.links = s.links) (h3 : s'.seq = s.seq) (h4 : s'.log = s.log) (h5 : s'.base = s.base) : Tab c A H' s' := by
 obtain ⟨st, hd, t1, t2⟩ := T.tab;obtain ⟨es, e1, e2⟩ := T.el;obtain ⟨bs, b0, b1, b2⟩ := T.bd;refine ⟨⟨st', hd', o, hs⟩, ?_, by rw [h1]; exact T.klen, fun i a x q1 q2 => ?_, T.knd, T.ln.else e (t1.apart T.ln Ajd).symm, ?_, fun d hd => ?_, T.dnd, by rw [h2]; exact T.tells, by rw [h3]; exact T.pp.else e (t1.apart T.pp Ahi).symm,
  ⟨es, ?_, by rw [h4]; exact Cd (fun _ _ q => q.else e (t1.apart q Akp).symm) e2⟩, ⟨bs, b0, ?_, by rw [h5]; exact Cd (fun _ _ q => q.else e (t1.apart q Ajc).symm) b2⟩, T.nel, T.nbd, T.nin⟩
 ·rw [e _ (t1.off T.kl B4)]; exact T.kl
 ·rw [h1] at q2;have q := T.kin i a x q1 q2;exact q.else e (q.apart t1 Ahj)
 ·rw [e _ (t1.off T.dr D1)]; exact T.dr
 ·rw [e _ (t1.off (T.din d hd) D1)]; exact T.din d hd
 ·rw [e _ (t1.off e1 B4)]; exact e1
 ·rw [h5, e _ (t1.off b1 D1)]; exact b1
theorem Tab.next (T : Tab c A H s) {n : Nat} (e : F6 A.pp H H') (o : Ob c.P pK H' A.pp [.int n, .ref A.el, .ref A.bd]) : Tab c A H' { s with seq := n } := by
 obtain ⟨st, hd, t1, t2⟩ := T.tab;obtain ⟨es, e1, e2⟩ := T.el;obtain ⟨bs, b0, b1, b2⟩ := T.bd;have op := T.pp;refine ⟨⟨st, hd, t1.else e (t1.apart op Ahi), t2⟩, ?_, T.klen, fun i a x q1 q2 => (T.kin i a x q1 q2).else e ((T.kin i a x q1 q2).apart op Ajg), T.knd, T.ln.else e (op.apart T.ln Akr).symm, ?_, fun d hd => ?_, T.dnd, T.tells, o,
  ⟨es, ?_, Cd (fun _ _ q => q.else e (op.apart q Aks).symm) e2⟩, ⟨bs, b0, ?_, Cd (fun _ _ q => q.else e (op.apart q Aje).symm) b2⟩, T.nel, T.nbd, T.nin⟩
 ·rw [e _ (op.off T.kl B4)]; exact T.kl
 ·rw [e _ (op.off T.dr D1)]; exact T.dr
 ·rw [e _ (op.off (T.din d hd) D1)]; exact T.din d hd
 ·rw [e _ (op.off e1 B4)]; exact e1
 ·rw [e _ (op.off b1 D1)]; exact b1
end
def GI (mg : Str → Option Value) (x : Str) (i : Int) : Prop := ∃ t, mg x = some (.int i t)
theorem C7 {X : Cx} {x : Str} {i : Int} {pos : Pos} (h : GI X.mg x i) (hg : Gl X x) (hd : (x == ("__debug__" : Str)) = false := by decide) : PE X (.Name x pos) (tC (.int i)) := by
 obtain ⟨t, h⟩ := h;exact Kd hg h ⟨t, rfl⟩ hd
section
variable (P : Program) (w : World) (K : Ad) (mg : Str → Option Value) (base : Heap)
def Fn (x : Str) (k : Nat) (ps : List Str) (sp : Sp) : Prop := ∃ f fd, Hu P w K mg base CX0 k f fd ps sp ∧ mg x = some (.ref f) ∧ Dx K (.ref f) = true ∧ Gw K fd ps []
def Me (C : Addr) (m : Str) (k : Nat) (ps : List Str) (sp : Sp) : Prop := ∃ f fd, Hu P w K mg base CX0 k f fd ps sp ∧ Cls K C ∧ Aib K C m f ∧ Gw K fd ps []
def Ma (C : Addr) (x : Str) (k : Nat) (ps : List Str) (sp : Sp) : Prop := ∃ f fd, Hu P w K mg base CX0 k f fd ps sp ∧ Mk K C f ∧ mg x = some (.ref C) ∧ Gw K fd ps []
end
def De (K : Ad) (mg : Str → Option Value) (x : Str) (st : Stmt) (ps : List Str) : Prop := ∃ f fd, Fun K x x st f fd ∧ mg x = some (.ref f) ∧ Gw K fd ps []
def Dm (K : Ad) (C : Addr) (m qual : Str) (st : Stmt) (ps : List Str) : Prop := ∃ f fd, Fun K m qual st f fd ∧ Cls K C ∧ Aib K C m f ∧ Gw K fd ps []
def Di (K : Ad) (mg : Str → Option Value) (C : Addr) (x qual : Str) (st : Stmt) (ps : List Str) : Prop := ∃ f fd, Fun K "__init__" qual st f fd ∧ Mk K C f ∧ mg x = some (.ref C) ∧ Gw K fd ps []
section
variable {P : Program} {w : World} {K : Ad} {mg : Str → Option Value} {base : Heap} {x m qual : Str} {st : Stmt} {ps : List Str} {C : Addr} {k : Nat} {sp : Sp}
theorem De.fn (D : De K mg x st ps) (h : ∀ f fd, Fun K x x st f fd → Hu P w K mg base CX0 k f fd ps sp) : Fn P w K mg base x k ps sp := by
 obtain ⟨f, fd, F, hm, hb⟩ := D;exact ⟨f, fd, h f fd F, hm, F.kp, hb⟩
theorem Dm.me (D : Dm K C m qual st ps) (h : ∀ f fd, Fun K m qual st f fd → Hu P w K mg base CX0 k f fd ps sp) : Me P w K mg base C m k ps sp := by
 obtain ⟨f, fd, F, c, hm, hb⟩ := D;exact ⟨f, fd, h f fd F, c, hm, hb⟩
theorem Di.ma (D : Di K mg C x qual st ps) (h : ∀ f fd, Fun K "__init__" qual st f fd → Hu P w K mg base CX0 k f fd ps sp) : Ma P w K mg base C x k ps sp := by
 obtain ⟨f, fd, F, c, hm, hb⟩ := D;exact ⟨f, fd, h f fd F, c, hm, hb⟩
end
section
variable {X : Cx} {k : Nat} {C : Addr} {ps : List Str} {sp : Sp} {x m : Str} {p pos apos : Pos} {e o : Expr} {es : List Expr} {ta : TE} {t : TA}
theorem Br (F : Fn X.prog X.w X.K X.mg X.base x k ps sp) (hr : Fx k X.A) (hg : Gl X x) (ha : PA X (e :: es) t) (hdb : (x == ("__debug__" : Str)) = false := by decide)
  (he : starEach (e :: es) X.env = (false, eval e X.env) :: starEach es X.env := by rfl) (hpl : (backTo pos (starEach es X.env)).any (·.1) = false := by rfl) : PE X (.Call (.Name x p) (e :: es) [] pos) (Yq sp [] E0 t) := by
 obtain ⟨f, fd, F, hm, hk, hb⟩ := F;exact Ah8 F hr hg hm hk hb .nil Zf ha hdb he hpl
theorem Ry {pl : Sem Bool} (F : Me X.prog X.w X.K X.mg X.base C m k ps sp) (ho : PE X o ta) (hr : Fx k X.A) (ha : PA X (e :: es) t)
  (hst : starEach (e :: es) X.env = (false, eval e X.env) :: starEach es X.env := by rfl) (hpl : (backTo pos (starEach es X.env)).any (·.1) = false := by rfl)
  (ht : eval (.Call (.Attribute o m apos) (e :: es) [] pos) X.env = (do
   let ov ← eval o X.env
   standAt apos.atName
   let (f, first) ← holding [ov] (getMethod ov m pl)
   callWith pos f first (backTo pos (starEach (e :: es) X.env)) (backToKw pos (keywordEach [] X.env))) := by rfl) : PE X (.Call (.Attribute o m apos) (e :: es) [] pos) (Aax C m sp [] E0 ta t) := by
 obtain ⟨f, fd, F, c, hm, hb⟩ := F;exact Ah5 (pl := pl) ho c hm F hr hb .nil Zf ha hst hpl ht
theorem Zb {pl : Sem Bool} (F : Me X.prog X.w X.K X.mg X.base C m k ps sp) (ho : PE X o ta) (hr : Fx k X.A)
  (ht : eval (.Call (.Attribute o m apos) [] [] pos) X.env = (do
   let ov ← eval o X.env
   standAt apos.atName
   let (f, first) ← holding [ov] (getMethod ov m pl)
   callWith pos f first (backTo pos (starEach [] X.env)) (backToKw pos (keywordEach [] X.env))) := by rfl) : PE X (.Call (.Attribute o m apos) [] [] pos) (Aax C m sp [] E0 ta Nv) := by
 obtain ⟨f, fd, F, c, hm, hb⟩ := F;exact Aea (pl := pl) ho c hm F hr hb .nil Zf ht
theorem Ae9 (F : Ma X.prog X.w X.K X.mg X.base C x k ps sp) (hr : Fx (k + 1) X.A) (hg : Gl X x) (ha : PA X (e :: es) t) (hdb : (x == ("__debug__" : Str)) = false := by decide)
  (he : starEach (e :: es) X.env = (false, eval e X.env) :: starEach es X.env := by rfl) (hpl : (backTo pos (starEach es X.env)).any (·.1) = false := by rfl) : PE X (.Call (.Name x p) (e :: es) [] pos) (Ady C sp [] E0 t) := by
 obtain ⟨f, fd, F, M, hm, hb⟩ := F;exact Ah7 M F hr hg hm hb .nil Zf ha hdb he hpl
theorem Za (F : Ma X.prog X.w X.K X.mg X.base C x k ps sp) (hr : Fx (k + 1) X.A) (hg : Gl X x) (hdb : (x == ("__debug__" : Str)) = false := by decide) : PE X (.Call (.Name x p) [] [] pos) (Ady C sp [] E0 Nv) := by
 obtain ⟨f, fd, F, M, hm, hb⟩ := F;exact Aeb M F hr hg hm hb .nil Zf hdb
end
def Ob0 (C : Addr) (ks : List Str) (n : Nat) (H : Hp) (p : Addr) (vs : List V) : Prop := ∃ dx, H p = some (.ins C dx ((ks.take n).zip vs)) ∧ vs.length = n
theorem Yk : ∀ {ks : List Str} {vs : List V} {f : Str} {y : V}, f ∉ ks → vs.length = ks.length → J8 f y (ks.zip vs) = (ks ++ [f]).zip (vs ++ [y])
 | [], [], _, _, _, _ => rfl
 | [], _ :: _, _, _, _, h => by simp at h
 | _ :: _, [], _, _, _, h => by simp at h
 | k :: ks, v :: vs, f, y, hf, hl => by
  have ne : ¬ k = f := fun e => hf (by rw [e]; exact A0);show (if k = f then _ else (k, v) :: J8 f y (ks.zip vs)) = _;rw [if_neg ne, Yk (fun z => hf (Am _ z)) (by simpa using hl)];rfl
section
variable {K : Ad} {C p : Addr} {ks : List Str} {vs : List V} {H H' : Hp} {f : Str} {v y : V} {n : Nat}
theorem Ob0.put {Q : Hp → Prop} (o : Ob0 C ks n H p vs) (c : CK K C ks) (hi : ks[n]? = some f) (k : ∀ H', Ob0 C ks (n + 1) H' p (vs ++ [y]) → F6 p H H' → Q H') :
  ∃ a C dx fs, V.ref p = .ref a ∧ H a = some (.ins C dx fs) ∧ Cls K C ∧ Je K C f ∧ fs.length < 1000 ∧ Q (upd H a (.ins C dx (J8 f y fs))) := by
 obtain ⟨dx, h, l⟩ := o;have hn : n < ks.length := (Af.mp hi).1;have hl : (ks.take n).length = n := by rw [Cg]; omega
 have ht : ks.take (n + 1) = ks.take n ++ [f] := by rw [Ce, hi]; rfl
 have hf : f ∉ ks.take n := fun z => by
  have := c.nd;rw [← List.take_append_drop (n + 1) ks, ht] at this;have h1 := (F8.mp (F8.mp this).1).2.2;exact h1 f z f (by simp) rfl
 refine ⟨p, C, dx, _, rfl, h, c.cls, c.no f (As hi), ?_, k _ ⟨dx, ?_, by simp [l]⟩ F6.upd⟩
 ·rw [X1 (by omega), hl]; have := c.few; omega
 ·rw [Ao, Yk hf (by omega), ht]
theorem Ob0.whole (o : Ob0 C ks n H p vs) (h : n = ks.length) : Ob C ks H p vs := by
 obtain ⟨dx, e, l⟩ := o;subst h;rw [Cf] at e;exact ⟨dx, e, l⟩
theorem Ob0.start {H1 : Hp} {dx : Addr} : Ob0 C ks 0 (upd H1 p (.ins C dx [])) p [] := ⟨dx, Ao, rfl⟩
theorem Ob0.new (o : Ob0 C ks n H p vs) (e : New H H') : Ob0 C ks n H' p vs := by
 obtain ⟨dx, h1, l⟩ := o;exact ⟨dx, e _ _ h1, l⟩
end
theorem P6 {H H2 : Hp} {x dx : Addr} {o : HO} (nx : H x = none) (nd : H dx = none) (e : F6 x (upd (upd H dx (.own x)) x o) H2) : New H H2 := fun b u h => by
 rw [e b (Av h nx), Aw (Av h nx), Aw (Av h nd)];exact h
def top (i : Nat) : Stmt := PySem.Challenge.pw_alarmtable_s01_answers.main.body.getD i (.Pass ⟨0, 0, 0, 0⟩)
abbrev s_Event_init : Stmt := F4 (top 9) 0
abbrev s_Standing_init : Stmt := F4 (top 10) 0
abbrev s_Paper_init : Stmt := F4 (top 11) 0
abbrev s_Paper_at_end : Stmt := F4 (top 11) 1
abbrev s_Paper_take_number : Stmt := F4 (top 11) 2
abbrev s_Paper_carry_over : Stmt := F4 (top 11) 3
abbrev s_Paper_write : Stmt := F4 (top 11) 4
abbrev s_Paper_move_into_base : Stmt := F4 (top 11) 5
abbrev s_Links_init : Stmt := F4 (top 13) 0
abbrev s_Links_put : Stmt := F4 (top 13) 1
abbrev s_Links_take_away : Stmt := F4 (top 13) 2
abbrev s_Links_all_before : Stmt := F4 (top 13) 3
abbrev s_Kind_init : Stmt := F4 (top 15) 0
abbrev s_Table_init : Stmt := F4 (top 16) 0
abbrev s_is_silent : Stmt := top 17
abbrev s_is_shelved : Stmt := top 18
abbrev s_raised_kinds : Stmt := top 19
abbrev s_raising_number : Stmt := top 20
abbrev s_raised_in_turn : Stmt := top 21
abbrev s_write_event : Stmt := top 23
abbrev s_raise_kind : Stmt := top 24
abbrev s_grow_rank : Stmt := top 25
abbrev s_sound_again : Stmt := top 26
abbrev s_acknowledge : Stmt := top 27
abbrev s_go_by_itself : Stmt := top 28
abbrev s_reset_kind : Stmt := top 29
abbrev s_lower : Stmt := top 30
abbrev s_start_condition : Stmt := top 31
abbrev s_end_condition : Stmt := top 32
abbrev s_sound_level : Stmt := top 33
abbrev s_within : Stmt := top 35
abbrev s_has_kind : Stmt := top 36
abbrev s_raised_before : Stmt := top 52
abbrev s_reset_refusal : Stmt := top 53
abbrev s_next_to_reset : Stmt := top 54
abbrev s_reset_order : Stmt := top 55
abbrev s_least_free : Stmt := top 56
abbrev s_counted : Stmt := top 60
abbrev s_tell_sound : Stmt := top 61
abbrev s_tell_stops : Stmt := top 62
abbrev s_tell_shown : Stmt := top 63
abbrev s_urgency : Stmt := top 64
abbrev s_tell_kind : Stmt := top 65
abbrev s_tell_tally : Stmt := top 66
abbrev s_tell_first : Stmt := top 67
abbrev s_tell_before : Stmt := top 68
abbrev s_tell_behind : Stmt := top 69
abbrev s_tell_order : Stmt := top 70
abbrev s_tell_why : Stmt := top 71
abbrev s_tell_log : Stmt := top 72
abbrev s_tell_base : Stmt := top 73
abbrev s_tell_time : Stmt := top 74
abbrev s_tell : Stmt := top 76
abbrev s_pass_seconds : Stmt := top 80
abbrev s_seconds_to_deed : Stmt := top 81
abbrev s_waiting_limit : Stmt := top 82
abbrev s_counting_start : Stmt := top 83
abbrev s_count_seconds : Stmt := top 84
abbrev s_do_deed : Stmt := top 85
abbrev s_writing_refusal : Stmt := top 91
abbrev s_define : Stmt := top 92
abbrev s_link : Stmt := top 93
abbrev s_unlink : Stmt := top 94
abbrev s_on : Stmt := top 95
abbrev s_off : Stmt := top 96
abbrev s_sense : Stmt := top 97
abbrev s_tick : Stmt := top 98
abbrev s_ack : Stmt := top 99
abbrev s_ack_to : Stmt := top 100
abbrev s_silence : Stmt := top 101
abbrev s_reset : Stmt := top 102
abbrev s_reset_all : Stmt := top 103
abbrev s_shelve : Stmt := top 104
abbrev s_unshelve : Stmt := top 105
abbrev s_set_clock : Stmt := top 106
abbrev s_renew : Stmt := top 107
abbrev s_change : Stmt := top 109
abbrev s_answer : Stmt := top 113
abbrev s_answers : Stmt := top 114
structure Tops (mg : Str → Option Value) : Prop where
 RAISED : GI mg "RAISED" 0
 GREW : GI mg "GREW" 1
 SOUNDED_AGAIN : GI mg "SOUNDED_AGAIN" 2
 ACKNOWLEDGED : GI mg "ACKNOWLEDGED" 3
 WENT : GI mg "WENT" 4
 RESET : GI mg "RESET" 5
 MOST_KEPT : GI mg "MOST_KEPT" 64
 END_NUMBER : GI mg "END_NUMBER" 2000
 OUT_OF_RANGE : GI mg "OUT_OF_RANGE" (-1)
 PAPER_AT_END : GI mg "PAPER_AT_END" (-2)
 TOO_MANY_KINDS : GI mg "TOO_MANY_KINDS" (-3)
 LINK_IN_A_CIRCLE : GI mg "LINK_IN_A_CIRCLE" (-4)
 CLOCK_TOO_FAR : GI mg "CLOCK_TOO_FAR" (-5)
 NOT_RAISED : GI mg "NOT_RAISED" (-6)
 CONDITION_HOLDS : GI mg "CONDITION_HOLDS" (-7)
 NOT_ACKNOWLEDGED : GI mg "NOT_ACKNOWLEDGED" (-8)
 OTHERS_COME_BEFORE : GI mg "OTHERS_COME_BEFORE" (-9)
 NOTHING_SOUNDS : GI mg "NOTHING_SOUNDS" (-10)
 RANK_TOO_GRAVE : GI mg "RANK_TOO_GRAVE" (-11)
 ALREADY_RAISED : GI mg "ALREADY_RAISED" (-12)
 CLOCK_GOES_BACK : GI mg "CLOCK_GOES_BACK" (-13)
 TABLE_NOT_AT_REST : GI mg "TABLE_NOT_AT_REST" (-14)
 GREATEST_ASKED : GI mg "GREATEST_ASKED" 1000000
 GRAVEST : GI mg "GRAVEST" 3
 NEVER : GI mg "NEVER" 1000000
 MOST_KINDS : GI mg "MOST_KINDS" 32
 LAST_SECOND : GI mg "LAST_SECOND" 1000000000
 GRAVEST_SHELVED : GI mg "GRAVEST_SHELVED" 1
 FIRST_ASKING_PLACE : GI mg "FIRST_ASKING_PLACE" 16
 no_len : mg "len" = none
 no_any : mg "any" = none
 no_max : mg "max" = none
 no_min : mg "min" = none
 no_sorted : mg "sorted" = none
 no_zip : mg "zip" = none
 no_int : mg "int" = none
section
variable {P : Program} {w : World} {K : Ad} {mg : Str → Option Value} {base : Heap} {C : Addr}
def Ack (C : Addr) : Sp := fun vs H Q _ => ∃ (p : Addr) (n t k w r : Int), vs = [.ref p, .int n, .int t, .int k, .int w, .int r] ∧ Ob0 C eK 0 H p [] ∧ ∀ H', Ob C eK H' p [.int n, .int t, .int k, .int w, .int r] → F6 p H H' → Q .non H'
theorem Rw : A8 ["self", "number", "clock", "kind", "what", "rank"] ["self", "number", "clock", "kind", "what", "rank"] (Ar s_Event_init) := by constructor<;>first|rfl|decide +kernel
theorem Aem (D : Di K mg C "Event" "Event.__init__" s_Event_init ["self", "number", "clock", "kind", "what", "rank"]) (c : CK K C eK) : Ma P w K mg base C "Event" 1 ["self", "number", "clock", "kind", "what", "rank"] (Ack C) := by
 refine D.ma fun f fd F => F.ok Rw (fun vs H Q E h => ?_) (fun cdv A outer s H vs Q E hr h => ?_)
 ·obtain ⟨p, n, t, k, w, r, rfl, _⟩ := h;rfl
 ·obtain ⟨p, n, t, k, w, r, rfl, o, q⟩ := h;refine ⟨_, (Ab (Bq (pv 0) (pv 1) rfl)
   (Ab (Bq (pv 0) (pv 2) rfl)
   (Ab (Bq (pv 0) (pv 3) rfl)
   (Ab (Bq (pv 0) (pv 4) rfl)
   (Ai (Bq (pv 0) (pv 5) rfl)))))), ?_⟩
  refine ⟨_, rfl, _, rfl, o.put c rfl fun H1 o e1 => ?_⟩;refine ⟨_, rfl, _, rfl, o.put c rfl fun H2 o e2 => ?_⟩;refine ⟨_, rfl, _, rfl, o.put c rfl fun H3 o e3 => ?_⟩;refine ⟨_, rfl, _, rfl, o.put c rfl fun H4 o e4 => ?_⟩;refine ⟨_, rfl, _, rfl, o.put c rfl fun H5 o e5 => ?_⟩;exact q H5 (o.whole rfl) ((((e1.trans e2).trans e3).trans e4).trans e5)
end
theorem Mj {m n : Nat} : nk m = nk n ↔ m = n := by
 unfold nk
 constructor
 ·intro h;have := Afl h;omega
 ·intro h; rw [h]
abbrev bdK (bs : List Addr) (l : List Bk) : List (Key × V) := List.zipWith (fun (a : Addr) (r : Bk) => (nk r.kind, V.ref a)) bs l
theorem E6 {α β : Type} {F : α → β → Prop} : ∀ {l : List α} {m : List β}, Paired F l m → l.length = m.length
 | _, _, .nil => rfl
 | _, _, .cons _ t => by rw [A2, A2, E6 t]
theorem M7 {α β : Type} {F : α → β → Prop} : ∀ {l : List α} {m : List β} {i : Nat} {b : β}, Paired F l m → m[i]? = some b → ∃ a, l[i]? = some a ∧ F a b
 | _, _, _, _, .nil, h => by simp at h
 | _, _, 0, _, .cons r _, h => by simp at h; subst h; exact ⟨_, rfl, r⟩
 | _, _, i + 1, b, .cons _ t, h => by
  obtain ⟨a, h1, h2⟩ := M7 (i := i) (b := b) t (by simpa using h);exact ⟨a, by simpa using h1, h2⟩
theorem Hz {α β : Type} {F : α → β → Prop} : ∀ {l : List α} {m : List β} {i : Nat} {a : α} {b : β}, Paired F l m → l[i]? = some a → m[i]? = some b → F a b
 | _, _, _, _, _, .nil, _, h => by simp at h
 | _, _, 0, _, _, .cons r _, h, h' => by simp at h h'; subst h; subst h'; exact r
 | _, _, i + 1, a, b, .cons _ t, h, h' => Hz (i := i) t (by simpa using h) (by simpa using h')
theorem Hy {α β : Type} {F : α → β → Prop} {a : α} {b : β} : ∀ {l : List α} {m : List β}, Paired F l m → F a b → Paired F (l ++ [a]) (m ++ [b])
 | _, _, .nil, h => .cons h .nil
 | _, _, .cons r t, h => .cons r (Hy t h)
theorem Ke {α β : Type} {F : α → β → Prop} : ∀ {l : List α} {m : List β} (i : Nat), Paired F l m → Paired F (l.eraseIdx i) (m.eraseIdx i)
 | _, _, _, .nil => .nil
 | _, _, 0, .cons _ t => t
 | _, _, i + 1, .cons r t => .cons r (Ke i t)
theorem N6 {α β : Type} {F G : α → β → Prop} : ∀ {l : List α} {m : List β} {i : Nat} {b : β}, Paired F l m → (∀ j a c, l[j]? = some a → m[j]? = some c → j ≠ i → F a c → G a c) → (∀ a, l[i]? = some a → G a b) → Paired G l (m.set i b)
 | _, _, _, _, .nil, _, _ => .nil
 | _, _, 0, b, .cons (a := a) (b := c) (l₁ := l) (l₂ := m) r t, h1, h2 => by
  refine .cons (h2 a rfl) ?_;have : m.set m.length b = m := List.set_eq_of_length_le (Ak _);rw [← this];refine N6 (i := m.length) t (fun j x y e1 e2 _ f => h1 (j + 1) x y (by simpa using e1) (by simpa using e2) (by omega) f) fun x hx => ?_;rw [← E6 t] at hx;simp at hx
 | _, _, i + 1, b, .cons (a := a) (b := c) r t, h1, h2 => .cons (h1 0 a c rfl rfl (by omega) r) (N6 (i := i) t (fun j x y e1 e2 ne f => h1 (j + 1) x y (by simpa using e1) (by simpa using e2) (by omega) f) fun x hx => h2 x (by simpa using hx))
theorem Acd : ∀ {bs : List Addr} {l : List Bk} {i : Nat} {r : Bk} {a : Addr}, J2 l → l[i]? = some r → bs[i]? = some a → Fm (bdK bs l) (nk r.kind) = some (V.ref a)
 | [], _, _, _, _, _, _, h => by simp at h
 | _ :: _, [], _, _, _, _, h, _ => by simp at h
 | b :: bs, q :: l, 0, r, a, hu, h, h' => by
  simp at h h';subst h; subst h';exact Ib rfl
 | b :: bs, q :: l, i + 1, r, a, hu, h, h' => by
  obtain ⟨h1, h2⟩ := Bt.mp (show (q.kind :: l.map (·.kind)).Nodup from hu);have hr : l[i]? = some r := by simpa using h
  show Fm ((nk q.kind, V.ref b) :: bdK bs l) (nk r.kind) = _;rw [Ic (fun e => h1 (by rw [show q.kind = r.kind from Mj.mp e]; exact Ay.mpr ⟨r, As hr, rfl⟩))];exact Acd h2 hr (by simpa using h')
theorem Acb : ∀ {bs : List Addr} {l : List Bk} {k : Nat}, (∀ r ∈ l, r.kind ≠ k) → Fm (bdK bs l) (nk k) = none
 | [], _, _, _ => by unfold bdK; simp [Ti]
 | _ :: _, [], _, _ => by unfold bdK; simp [Ti]
 | b :: bs, q :: l, k, h => by
  show Fm ((nk q.kind, V.ref b) :: bdK bs l) (nk k) = _;rw [Ic fun e => h q A0 (Mj.mp e)];exact Acb fun r hr => h r (Am _ hr)
theorem Z8 : ∀ {bs : List Addr} {l : List Bk} {k : Nat}, (∀ r ∈ l, r.kind ≠ k) → Gk (bdK bs l) (nk k) = bdK bs l
 | [], _, _, _ => by unfold bdK; simp [Gk]
 | _ :: _, [], _, _ => by unfold bdK; simp [Gk]
 | b :: bs, q :: l, k, h => by
  show Gk ((nk q.kind, V.ref b) :: bdK bs l) (nk k) = _;rw [Nj fun e => h q A0 (Mj.mp e), Z8 fun r hr => h r (Am _ hr)];rfl
theorem Ad9 : ∀ {bs : List Addr} {l : List Bk} {i : Nat} {r : Bk}, J2 l → bs.length = l.length → l[i]? = some r → Gk (bdK bs l) (nk r.kind) = bdK (bs.eraseIdx i) (l.eraseIdx i)
 | [], [], _, _, _, _, h => by simp at h
 | [], _ :: _, _, _, _, h, _ => by simp at h
 | _ :: _, [], _, _, _, _, h => by simp at h
 | b :: bs, q :: l, 0, r, hu, hl, h => by
  simp at h;subst h;obtain ⟨h1, h2⟩ := Bt.mp (show (q.kind :: l.map (·.kind)).Nodup from hu);show Gk ((nk q.kind, V.ref b) :: bdK bs l) (nk q.kind) = bdK bs l;rw [Q5 rfl, Z8 fun r hr e => h1 (Ay.mpr ⟨r, hr, e⟩)]
 | b :: bs, q :: l, i + 1, r, hu, hl, h => by
  obtain ⟨h1, h2⟩ := Bt.mp (show (q.kind :: l.map (·.kind)).Nodup from hu);have hr : l[i]? = some r := by simpa using h
  show Gk ((nk q.kind, V.ref b) :: bdK bs l) (nk r.kind) = (nk q.kind, V.ref b) :: bdK (bs.eraseIdx i) (l.eraseIdx i);rw [Nj (fun e => h1 (by rw [show q.kind = r.kind from Mj.mp e]; exact Ay.mpr ⟨r, As hr, rfl⟩)), Ad9 h2 (by simpa using hl) hr]
theorem Ki : ∀ {l : List Bk} {i : Nat} {r : Bk}, J2 l → l[i]? = some r → (l.filter fun q => q.kind != r.kind) = l.eraseIdx i
 | [], _, _, _, h => by simp at h
 | q :: l, 0, r, hu, h => by
  simp at h;subst h;obtain ⟨h1, h2⟩ := Bt.mp (show (q.kind :: l.map (·.kind)).Nodup from hu);rw [Bu, if_neg (by simp), List.eraseIdx_cons_zero, List.filter_eq_self];intro p hp;have : p.kind ≠ q.kind := fun e => h1 (Ay.mpr ⟨p, hp, e⟩);simp [this]
 | q :: l, i + 1, r, hu, h => by
  obtain ⟨h1, h2⟩ := Bt.mp (show (q.kind :: l.map (·.kind)).Nodup from hu);have hr : l[i]? = some r := by simpa using h
  have ne : q.kind ≠ r.kind := fun e => h1 (by rw [e]; exact Ay.mpr ⟨r, As hr, rfl⟩);rw [Bu, if_pos (by simp [ne]), List.eraseIdx_cons_succ, Ki h2 hr]
theorem map_set : ∀ {l : List Bk} {i : Nat} {r : Bk} {g : Bk → Bk}, J2 l → l[i]? = some r → (l.map fun q => if q.kind = r.kind then g q else q) = l.set i (g r)
 | [], _, _, _, _, h => by simp at h
 | q :: l, 0, r, g, hu, h => by
  simp at h;subst h;obtain ⟨h1, h2⟩ := Bt.mp (show (q.kind :: l.map (·.kind)).Nodup from hu);rw [Bc, if_pos rfl, List.set_cons_zero]
  congr 1
  conv => rhs; rw [← List.map_id l]
  apply Iw
  intro p hp;rw [if_neg fun e => h1 (Ay.mpr ⟨p, hp, e⟩)];rfl
 | q :: l, i + 1, r, g, hu, h => by
  obtain ⟨h1, h2⟩ := Bt.mp (show (q.kind :: l.map (·.kind)).Nodup from hu);have hr : l[i]? = some r := by simpa using h
  have ne : q.kind ≠ r.kind := fun e => h1 (by rw [e]; exact Ay.mpr ⟨r, As hr, rfl⟩);rw [Bc, if_neg ne, List.set_cons_succ, map_set h2 hr]
section
variable {c : Cs} {A : AD} {H H' : Hp} {s : Al}
theorem Tab.evs (T : Tab c A H s) {es : List Addr} {l : List Dg} (hp : Paired (fun a e => Ob c.E eK H a (ev e)) es l) : Tab c A (upd H A.el (.lst (es.map V.ref))) { s with log := l } := by
 obtain ⟨st, hd, t1, t2⟩ := T.tab;obtain ⟨es', e1, e2⟩ := T.el;obtain ⟨bs, b0, b1, b2⟩ := T.bd;have e : F6 A.el H (upd H A.el (.lst (es.map V.ref))) := F6.upd;have nd : ∀ {q : Addr} {kvs : List (Key × V)}, H q = some (.dK kvs) → q ≠ A.el := fun h => Ng h e1 (by intro z; cases z);have ni : ∀ {C q : Addr} {ks : List Str} {vs : List V}, Ob C ks H q vs → q ≠ A.el := fun o => (o.off e1 B4).symm;refine ⟨⟨st, hd, t1.else e (ni t1), t2⟩, ?_, T.klen, fun i a x q1 q2 => (T.kin i a x q1 q2).else e (ni (T.kin i a x q1 q2)), T.knd, T.ln.else e (ni T.ln), ?_, fun d hd => ?_, T.dnd, T.tells, T.pp.else e (ni T.pp),
  ⟨es, Ao, Cd (fun _ _ q => q.else e (ni q)) hp⟩, ⟨bs, b0, ?_, Cd (fun _ _ q => q.else e (ni q)) b2⟩, T.nel, T.nbd, T.nin⟩
 ·rw [e _ T.nel.symm]; exact T.kl
 ·rw [e _ (nd T.dr)]; exact T.dr
 ·rw [e _ (nd (T.din d hd))]; exact T.din d hd
 ·rw [e _ (nd b1)]; exact b1
theorem Tab.bas (T : Tab c A H s) {bs : List Addr} {l : List Bk} (b0 : bs.Nodup) (hp : Paired (fun a r => Ob c.S sK H a (sv r)) bs l) : Tab c A (upd H A.bd (.dK (bdK bs l))) { s with base := l } := by
 obtain ⟨st, hd, t1, t2⟩ := T.tab;obtain ⟨es, e1, e2⟩ := T.el;obtain ⟨bs', _, b1, b2⟩ := T.bd;have e : F6 A.bd H (upd H A.bd (.dK (bdK bs l))) := F6.upd;have nl : ∀ {q : Addr} {xs : List V}, H q = some (.lst xs) → q ≠ A.bd := fun h => Ng h b1 (by intro z; cases z);have ni : ∀ {C q : Addr} {ks : List Str} {vs : List V}, Ob C ks H q vs → q ≠ A.bd := fun o => (o.off b1 D1).symm;refine ⟨⟨st, hd, t1.else e (ni t1), t2⟩, ?_, T.klen, fun i a x q1 q2 => (T.kin i a x q1 q2).else e (ni (T.kin i a x q1 q2)), T.knd, T.ln.else e (ni T.ln), ?_, fun d hd => ?_, T.dnd, T.tells, T.pp.else e (ni T.pp),
  ⟨es, ?_, Cd (fun _ _ q => q.else e (ni q)) e2⟩, ⟨bs, b0, Ao, Cd (fun _ _ q => q.else e (ni q)) hp⟩, T.nel, T.nbd, T.nin⟩
 ·rw [e _ (nl T.kl)]; exact T.kl
 ·rw [e _ T.nbd.symm]; exact T.dr
 ·rw [e _ (T.nin d hd).1]; exact T.din d hd
 ·rw [e _ (nl e1)]; exact e1
theorem Tab.stand (T : Tab c A H s) {bs : List Addr} {i : Nat} {p : Addr} {r r' : Bk} (b0 : bs.Nodup) (b1 : H A.bd = some (.dK (bdK bs s.base))) (b2 : Paired (fun a r => Ob c.S sK H a (sv r)) bs s.base)
  (hp : bs[i]? = some p) (hr : s.base[i]? = some r) (hk : r'.kind = r.kind) (e : F6 p H H') (o : Ob c.S sK H' p (sv r')) : Tab c A H' { s with base := s.base.set i r' } := by
 obtain ⟨st, hd, t1, t2⟩ := T.tab;obtain ⟨es, e1, e2⟩ := T.el;have op := Hz b2 hp hr;have hz : bdK bs (s.base.set i r') = bdK bs s.base := by
  unfold bdK
  apply Hn
  intro j;rw [Wx, Wx]
  by_cases q : j = i
  ·subst q;rw [Bm (Af.mp hr).1, hr, hp];show some (nk r'.kind, V.ref p) = some (nk r.kind, V.ref p);rw [hk]
  ·rw [Bh (fun z => q z.symm)]
 refine ⟨⟨st, hd, t1.else e (t1.apart op Ajc), t2⟩, ?_, T.klen, fun i a x q1 q2 => (T.kin i a x q1 q2).else e ((T.kin i a x q1 q2).apart op Ajf), T.knd, T.ln.else e (op.apart T.ln Akq).symm, ?_, fun d hd => ?_, T.dnd, T.tells, T.pp.else e (T.pp.apart op Aje),
  ⟨es, ?_, Cd (fun _ _ q => q.else e (q.apart op Ajh)) e2⟩, ⟨bs, b0, ?_, ?_⟩, T.nel, T.nbd, T.nin⟩
 ·rw [e _ (op.off T.kl B4)]; exact T.kl
 ·rw [e _ (op.off T.dr D1)]; exact T.dr
 ·rw [e _ (op.off (T.din d hd) D1)]; exact T.din d hd
 ·rw [e _ (op.off e1 B4)]; exact e1
 ·show H' A.bd = some (.dK (bdK bs (s.base.set i r')));rw [hz, e _ (op.off b1 D1)]; exact b1
 ·refine N6 b2 (fun j a q h1 h2 ne ob => ob.else e fun z => ne (Sf b0 h1 (by rw [z]; exact hp))) fun a ha => ?_;have : a = p := Ah (ha.symm.trans hp);subst this;exact o
theorem Bj.own {a : Addr} {o : HO} (h : a ∈ A.own) : Bj A H (upd H a o) := fun b u e _ m => by
 rw [Aw fun z => m (by rw [z]; exact h)];exact e
end
section
variable {P : Program} {w : World} {K : Ad} {mg : Str → Option Value} {base : Heap} {C : Addr} {c : Cs}
def Nw (C : Addr) : Sp := fun vs H Q _ => ∃ (p : Addr) (n r : Int) (b : Bool), vs = [.ref p, .int n, .int r, .bl b] ∧ Ob0 C sK 0 H p [] ∧ ∀ H', Ob C sK H' p [.int n, .int r, .bl b] → F6 p H H' → Q .non H'
theorem Mz : A8 ["self", "raised_by", "rank", "acknowledged"] ["self", "raised_by", "rank", "acknowledged"] (Ar s_Standing_init) := by constructor<;>first|rfl|decide +kernel
theorem Xi (D : Di K mg C "Standing" "Standing.__init__" s_Standing_init ["self", "raised_by", "rank", "acknowledged"]) (c : CK K C sK) : Ma P w K mg base C "Standing" 1 ["self", "raised_by", "rank", "acknowledged"] (Nw C) := by
 refine D.ma fun f fd F => F.ok Mz (fun vs H Q E h => ?_) (fun cdv A outer s H vs Q E hr h => ?_)
 ·obtain ⟨p, n, r, b, rfl, _⟩ := h;rfl
 ·obtain ⟨p, n, r, b, rfl, o, q⟩ := h;refine ⟨_, (Ab (Bq (pv 0) (pv 1) rfl)
   (Ab (Bq (pv 0) (pv 2) rfl)
   (Ai (Bq (pv 0) (pv 3) rfl)))), ?_⟩
  refine ⟨_, rfl, _, rfl, o.put c rfl fun H1 o e1 => ?_⟩;refine ⟨_, rfl, _, rfl, o.put c rfl fun H2 o e2 => ?_⟩;refine ⟨_, rfl, _, rfl, o.put c rfl fun H3 o e3 => ?_⟩;exact q H3 (o.whole rfl) ((e1.trans e2).trans e3)
def X9 (c : Cs) : Sp := fun vs H Q _ => ∃ A s, vs = [.ref (AD.pp A)] ∧ Tab c A H s ∧ Q (.bl (J6 s)) H
theorem Ov : A8 ["self"] ["self"] (Ar s_Paper_at_end) := by constructor<;>first|rfl|decide +kernel
theorem Abi (D : Dm K c.P "at_end" "Paper.at_end" s_Paper_at_end ["self"]) (cP : CK K c.P pK) (M : Tops mg) : Me P w K mg base c.P "at_end" 1 ["self"] (X9 c) := by
 refine D.me fun f fd F => F.ok Ov (fun vs H Q E h => ?_) (fun cdv A outer s H vs Q E hr h => ?_)
 ·obtain ⟨A, s, rfl, _⟩ := h;rfl
 ·obtain ⟨A, s, rfl, T, q⟩ := h;refine ⟨_, (Ai (A1 (Ji Abb (An (pv 0) rfl) (C7 M.END_NUMBER rfl) (Cq _)))), ?_⟩;obtain ⟨dp, hp, lp⟩ := T.pp;refine ⟨_, rfl, _, _, _, _, _, rfl, hp, cP.cls, cP.n 0 rfl, cP.l lp 0 rfl, _, _, rfl, rfl, ?_⟩;have e : decide ((2000 : Int) ≤ (s.seq : Int)) = J6 s := by
   unfold J6 Vbdlah.PAPER;exact decide_eq_decide.mpr (by omega)
  show Q (.bl (decide ((2000 : Int) ≤ (s.seq : Int)))) H;rw [e];exact q
def Afv (c : Cs) : Sp := fun vs H Q _ => ∃ A s a e, vs = [.ref (AD.pp A), .ref a] ∧ Tab c A H s ∧ Ob c.E eK H a (ev e) ∧ J2 s.base ∧ (∀ r ∈ s.base, r.kind < 32) ∧ Oi s.base e ∧ ∀ H', Tab c A H' { s with base := Ia s.base e } → Bj A H H' → Q .non H'
theorem Fs : A8 ["self", "event", "standing"] ["self", "event"] (Ar s_Paper_move_into_base) := by constructor<;>first|rfl|decide +kernel
theorem Aij {l : List Bk} {e : Dg} (h : e.what = 0) : Ia l e = l ++ [⟨e.kind, e.seq, e.rank, false⟩] := by unfold Ia; rw [if_pos h]
theorem Vy {l : List Bk} {e : Dg} (h : e.what = 4 ∨ e.what = 5) : Ia l e = l.filter fun r => r.kind != e.kind := by
 unfold Ia;rw [if_neg (by omega), if_neg (by omega), if_neg (by omega), if_neg (by omega)]
theorem Adv {l : List Bk} {e : Dg} {i : Nat} {r : Bk} (hu : J2 l) (hi : l[i]? = some r) (hk : r.kind = e.kind) (h0 : ¬ e.what = 0) (h3 : ¬ (e.what = 4 ∨ e.what = 5)) (h5 : e.what ≤ 5) (h1 : e.what = 1 → r.acked = false) (h2 : e.what = 2 ∨ e.what = 3 → r.rank = e.rank) :
  Ia l e = l.set i ⟨r.kind, r.seq, e.rank, decide (e.what = 3)⟩ := by
 unfold Ia;rw [if_neg h0, ← hk]
 by_cases q1 : e.what = 1
 ·rw [if_pos q1, map_set (g := fun r => { r with rank := e.rank }) hu hi]
  congr 1
  rw [decide_eq_false (by omega), ← h1 q1]
 ·rw [if_neg q1]
  by_cases q2 : e.what = 2
  ·rw [if_pos q2, map_set (g := fun r => { r with acked := false }) hu hi]
   congr 1
   rw [decide_eq_false (by omega), ← h2 (.inl q2)]
  ·have q3 : e.what = 3 := by omega
   rw [if_neg q2, if_pos q3, map_set (g := fun r => { r with acked := true }) hu hi]
   congr 1
   rw [decide_eq_true q3, ← h2 (.inr q3)]
theorem Ahd (D : Dm K c.P "move_into_base" "Paper.move_into_base" s_Paper_move_into_base ["self", "event"]) (cP : CK K c.P pK) (cE : CK K c.E eK) (cS : CK K c.S sK) (M : Tops mg) (DS : Ma P w K mg base c.S "Standing" 1 ["self", "raised_by", "rank", "acknowledged"] (Nw c.S)) :
  Me P w K mg base c.P "move_into_base" 3 ["self", "event"] (Afv c) := by
 refine D.me fun f fd F => F.ok Fs (fun vs H Q E h => ?_) (fun cdv A outer s H vs Q E hr h => ?_)
 ·obtain ⟨A, s, a, e, rfl, _⟩ := h;rfl
 ·obtain ⟨A, s, a, e, rfl, T, oe, hu, hlow, hs, q⟩ := h;have hu1 := U3 hr;refine ⟨_, (Ai (Ca (B6 M8 (An (pv 1) rfl) (C7 M.RAISED rfl) (Cq _)) (Ai (Qw hu1 (An (pv 0) rfl) (An (pv 1) rfl) (Ae9 DS (hr.mono (by decide)) rfl (Aa (An (pv 1) rfl) (Aa (An (pv 1) rfl) (Aa K1 Ag)))) rfl))
   (Ai (Ca (PW.pt (Xd (B6 M8 (An (pv 1) rfl) (C7 M.WENT rfl) (Cq _)) (Pl (B6 M8 (An (pv 1) rfl) (C7 M.RESET rfl) (Cq _)))))
    (Ai (Cv (Uj (An (pv 0) rfl) (An (pv 1) rfl) ⟨rfl, rfl, rfl, rfl⟩)))
    (Ab (Bf (i := 2) Fs.nd rfl (A7 rfl) (Yg hu1 (An (pv 0) rfl) (An (pv 1) rfl) (fun _ _ => rfl)))
    (Ab (Bq (pv 2) (An (pv 1) rfl) rfl)
    (Ai (Bq (pv 2) (Ji M8 (An (pv 1) rfl) (C7 M.ACKNOWLEDGED rfl) (Cq _)) rfl)))))))), ?_⟩
  obtain ⟨bs, b0, b1, b2⟩ := T.bd;have hbl := E6 b2;obtain ⟨de, he, le⟩ := id oe;obtain ⟨dp, hp, lp⟩ := id T.pp;refine ⟨_, rfl, _, _, _, _, _, rfl, he, cE.cls, cE.n 3 rfl, cE.l le 3 rfl, rfl, _, rfl, Cm (fun h0 => ?_) (fun h0 => ?_)⟩
  ·-- raised: a new standing
   have h0 : e.what = 0 := by have := of_decide_eq_true h0; have := V.int.inj this; omega
   have hno : ∀ r ∈ s.base, r.kind ≠ e.kind := by
    rcases hs with ⟨_, h⟩ | ⟨h, _⟩
    ·exact h
    ·omega
   refine ⟨_, rfl, _, _, _, _, _, rfl, he, cE.cls, cE.n 0 rfl, cE.l le 0 rfl, _, rfl, _, _, _, _, _, rfl, he, cE.cls, cE.n 4 rfl, cE.l le 4 rfl, fun x dx nx ndx ne => ?_⟩;refine ⟨x, _, _, _, rfl, Ob0.start, fun H1 o1 e1 => ⟨rfl, ?_⟩⟩;have n1 : New H H1 := P6 nx ndx e1;have T1 := T.same n1;refine ⟨_, rfl, _, _, _, _, _, rfl, n1 _ _ hp, cP.cls, cP.n 2 rfl, cP.l lp 2 rfl, _, rfl, _, _, _, _, _, rfl, n1 _ _ he, cE.cls, cE.n 2 rfl, cE.l le 2 rfl, A.bd, _, rfl, Aad.k (k := nk e.kind) (n1 _ _ b1) ?_, ?_⟩
   ·have := Tj hu hlow;rw [Aag, hbl, Vm];exact C0 (by omega)
   ·rw [M0 _ (Acb hno)];have hx : x ∉ bs := fun hm => by
     obtain ⟨i, hi⟩ := B2 hm;have : i < s.base.length := by rw [← hbl]; exact (Af.mp hi).1
     obtain ⟨_, h2, _⟩ := Hz b2 hi (Aq this);rw [nx] at h2
     cases h2
    have T2 := T1.bas (bs := bs ++ [x]) (l := s.base ++ [⟨e.kind, e.seq, e.rank, false⟩]) (Qy b0 hx) (Hy (b := ⟨e.kind, e.seq, e.rank, false⟩) (Cd (fun _ _ o => o.new n1) b2) o1);have ez : bdK (bs ++ [x]) (s.base ++ [⟨e.kind, e.seq, e.rank, false⟩]) = bdK bs s.base ++ [(nk e.kind, V.ref x)] := by
     unfold bdK;rw [List.zipWith_append hbl];rfl
    rw [ez, ← Aij h0] at T2;exact q _ T2 ((Bj.new n1).trans (Bj.own (by simp [AD.own])))
  ·have h0 : ¬ e.what = 0 := fun z => h0 (by rw [z]; rfl);obtain ⟨hp0, hp5, r, hr, hrk, hr1, hr2⟩ : 0 < e.what ∧ e.what ≤ 5 ∧ ∃ r ∈ s.base, r.kind = e.kind ∧ (e.what = 1 → r.acked = false) ∧ (e.what = 2 ∨ e.what = 3 → r.rank = e.rank) := by
    rcases hs with ⟨h, _⟩ | h
    ·exact absurd h h0
    ·exact h
   obtain ⟨i, hi⟩ := B2 hr;obtain ⟨a', ha', oa⟩ := M7 b2 hi;have hv := Acd hu hi ha';rw [hrk] at hv;have gone : (e.what = 4 ∨ e.what = 5) → Q .non (upd H A.bd (.dK (Gk (bdK bs s.base) (nk e.kind)))) := fun h45 => by
    have T2 := T.bas (bs := bs.eraseIdx i) (l := s.base.eraseIdx i) (List.Nodup.eraseIdx i b0) (Ke i b2);rw [← hrk, Ad9 hu hbl hi];rw [← Ki hu hi, hrk, ← Vy h45] at T2;rw [← Ki hu hi, hrk, ← Vy h45];exact q _ T2 (Bj.own (by simp [AD.own]))
   have pop : (e.what = 4 ∨ e.what = 5) → (Adz (Afs (K8 K (Fj 0) "base") (K8 K (Fj 1) "kind"))) { nx := fun _ H' => Q .non H', rt := Q } [some (.ref A.pp), some (.ref a), none] H := fun h45 => by
    refine ⟨_, rfl, _, _, _, _, _, rfl, hp, cP.cls, cP.n 2 rfl, cP.l lp 2 rfl, A.bd, rfl, .inl ⟨_, .inl b1⟩, _, rfl, _, _, _, _, _, rfl, he, cE.cls, cE.n 2 rfl, cE.l le 2 rfl, _, nk e.kind, _, b1, rfl, hv, ?_⟩;exact gone h45
   refine ⟨_, rfl, _, _, _, _, _, rfl, he, cE.cls, cE.n 3 rfl, cE.l le 3 rfl, rfl, _, rfl, Cm (fun h4 => U2 ?_) (fun h4 => ?_)⟩
   ·exact pop (.inl (by have := of_decide_eq_true h4; have := V.int.inj this; omega))
   ·refine ⟨_, rfl, _, _, _, _, _, rfl, he, cE.cls, cE.n 3 rfl, cE.l le 3 rfl, rfl, _, rfl, Cm (fun h5 => ?_) (fun h5 => ?_)⟩
    ·exact pop (.inr (by have := of_decide_eq_true h5; have := V.int.inj this; omega))
    ·have h4 : ¬ e.what = 4 := fun z => h4 (by rw [z]; rfl);have h5 : ¬ e.what = 5 := fun z => h5 (by rw [z]; rfl);refine ⟨_, rfl, _, _, _, _, _, rfl, hp, cP.cls, cP.n 2 rfl, cP.l lp 2 rfl, _, rfl, _, _, _, _, _, rfl, he, cE.cls, cE.n 2 rfl, cE.l le 2 rfl, A.bd, V.ref a', rfl, hv ▸ La.k (k := nk e.kind) b1, ?_⟩;refine ⟨_, rfl, _, _, _, _, _, rfl, he, cE.cls, cE.n 4 rfl, cE.l le 4 rfl, _, rfl, ?_⟩;refine oa.put cS 1 rfl fun H1 o1 e1 => ?_;have na : a ≠ a' := oe.apart oa Ajh;have he1 : H1 a = _ := (e1 a na).trans he;refine ⟨_, rfl, _, _, _, _, _, rfl, he1, cE.cls, cE.n 3 rfl, cE.l le 3 rfl, rfl, _, rfl, ?_⟩;refine o1.put cS 2 rfl fun H2 o2 e2 => ?_;have ed : decide ((V.int e.what) = V.int 3) = decide (e.what = 3) := decide_eq_decide.mpr ⟨fun z => by have := V.int.inj z; omega, fun z => by rw [z]; rfl⟩;have T2 := T.stand (r' := ⟨r.kind, r.seq, e.rank, decide (e.what = 3)⟩) b0 b1 b2 ha' hi rfl (e1.trans e2) (ed ▸ o2);rw [← Adv hu hi hrk h0 (by omega) hp5 hr1 hr2] at T2;exact q _ T2 (Bj.else oa (e1.trans e2))
def X3 (c : Cs) : Sp := fun vs H Q _ => ∃ (A : AD) (s : Al) (k w r : Nat), vs = [.ref A.pp, .int s.now, .int k, .int w, .int r] ∧ Tab c A H s ∧ J3 s.base s.log ∧ Low s.base s.log ∧ s.log.length ≤ 64 ∧ ∀ H', Tab c A H' (Bd s k w r) → Bj A H H' → Q (.int s.seq) H'
def Acf (c : Cs) : Sp := fun vs H Q _ => ∃ (p : Addr) (n : Nat) (e b : Addr), vs = [.ref p] ∧ Ob c.P pK H p [.int n, .ref e, .ref b] ∧ ∀ H', Ob c.P pK H' p [.int (n + 1 : Nat), .ref e, .ref b] → F6 p H H' → Q (.int n) H'
theorem Gs : A8 ["self", "number"] ["self"] (Ar s_Paper_take_number) := by constructor<;>first|rfl|decide +kernel
theorem Px (D : Dm K c.P "take_number" "Paper.take_number" s_Paper_take_number ["self"]) (cP : CK K c.P pK) : Me P w K mg base c.P "take_number" 1 ["self"] (Acf c) := by
 refine D.me fun f fd F => F.ok Gs (fun vs H Q E h => ?_) (fun cdv A outer s H vs Q E hr h => ?_)
 ·obtain ⟨p, n, e, b, rfl, _⟩ := h;rfl
 ·obtain ⟨p, n, e, b, rfl, o, q⟩ := h;refine ⟨_, (Ab (Bf (i := 1) Gs.nd rfl (A7 rfl) (An (pv 0) rfl))
   (Ab (Bq (pv 0) (Et J9 (pv 1) Ax) rfl)
   (Ai (A1 (pv 1))))), ?_⟩
  obtain ⟨dp, hp, lp⟩ := id o;refine ⟨_, rfl, _, _, _, _, _, rfl, hp, cP.cls, cP.n 0 rfl, cP.l lp 0 rfl, ?_⟩;refine ⟨_, rfl, _, _, rfl, rfl, _, rfl, ?_⟩;refine o.put cP 0 rfl fun H1 o1 e1 => ?_;exact ⟨_, rfl, q H1 o1 e1⟩
theorem Kx : A8 ["self", "clock", "kind", "what", "rank", "number"] ["self", "clock", "kind", "what", "rank"] (Ar s_Paper_write) := by constructor<;>first|rfl|decide +kernel
theorem Ab4 {s : Al} {k w r : Nat} (h : ¬ 64 < (s.log ++ [(⟨s.seq, s.now, k, w, r⟩ : Dg)]).length) : Bd s k w r = { s with seq := s.seq + 1, log := s.log ++ [⟨s.seq, s.now, k, w, r⟩] } := by
 obtain ⟨ks, ln, nw, sq, si, fi, lg, ba⟩ := s;unfold Bd
 cases lg with
 | nil => rfl
 | cons a t =>
  simp only;rw [if_pos]
  ·show (a :: t).length < 64;simp at h ⊢;omega
theorem Ae5 {s : Al} {k w r : Nat} {a : Dg} {t : List Dg} (e : s.log = a :: t) (h : 64 < (s.log ++ [(⟨s.seq, s.now, k, w, r⟩ : Dg)]).length) : Bd s k w r = { s with seq := s.seq + 1, log := t ++ [⟨s.seq, s.now, k, w, r⟩], base := Ia s.base a } := by
 obtain ⟨ks, ln, nw, sq, si, fi, lg, ba⟩ := s;simp only at e h;subst e;unfold Bd;simp only;rw [if_neg]
 ·show ¬ (a :: t).length < 64;simp at h ⊢;omega
theorem Aee (D : Dm K c.P "write" "Paper.write" s_Paper_write ["self", "clock", "kind", "what", "rank"]) (cP : CK K c.P pK) (cE : CK K c.E eK) (M : Tops mg) (DE : Ma P w K mg base c.E "Event" 1 ["self", "number", "clock", "kind", "what", "rank"] (Ack c.E))
  (DM : Me P w K mg base c.P "move_into_base" 3 ["self", "event"] (Afv c)) (DN : Me P w K mg base c.P "take_number" 1 ["self"] (Acf c)) : Me P w K mg base c.P "write" 4 ["self", "clock", "kind", "what", "rank"] (X3 c) := by
 refine D.me fun f fd F => F.ok Kx (fun vs H Q E h => ?_) (fun cdv A outer s H vs Q E hr h => ?_)
 ·obtain ⟨A, s, k, w, r, rfl, _⟩ := h;rfl
 ·obtain ⟨A, s, k, w, r, rfl, T, hlog, hlow, hlen, q⟩ := h;refine ⟨_, (Ab (Bf (i := 5) Kx.nd rfl (A7 rfl) (Zb DN (pv 0) (hr.mono (by decide))))
   (Ab (Cv (M6 B1 E2 E1 Jb (An (pv 0) rfl) (Aa (Ae9 DE (hr.mono (by decide)) rfl (Aa (pv 5) (Aa (pv 1) (Aa (pv 2) (Aa (pv 3) (Aa (pv 4) Ag)))))) Ag)))
   (Ab (Ca (B6 Pr (C1 C2 (by rfl) M.no_len Cw (Aa (An (pv 0) rfl) Ag)) (C7 M.MOST_KEPT rfl) (Cq _)) (Ai (Cv (Ry DM (pv 0) (hr.mono (by decide)) (Aa (M6 B1 PySem.F.slot_list_pop PySem.F.type_list_pop Aeq (An (pv 0) rfl) (Aa Ax Ag)) Ag)))) Bg)
   (Ai (A1 (pv 5)))))), ?_⟩
  obtain ⟨dp, hp, lp⟩ := id T.pp;refine ⟨_, rfl, A.pp, dp, _, rfl, hp, Le (by decide +kernel), A.pp, s.seq, A.el, A.bd, rfl, T.pp, fun H1 o1 e1 => ?_⟩;have T1 : Tab c A H1 { s with seq := s.seq + 1 } := T.next e1 o1;have k1 : Bj A H H1 := Bj.else T.pp e1;obtain ⟨dp1, hp1, lp1⟩ := id T1.pp;obtain ⟨es, el1, ep1⟩ := T1.el;refine ⟨_, rfl, _, _, _, _, _, rfl, hp1, cP.cls, cP.n 1 rfl, cP.l lp1 1 rfl, .inl ⟨rfl, _, SqL.of el1⟩, _, rfl, _, rfl, _, rfl, _, rfl, _, rfl, fun x dx nx ndx ne => ?_⟩;refine ⟨x, _, _, _, _, _, rfl, Ob0.start, fun H2 o2 e2 => ⟨rfl, ?_⟩⟩;have n2 : New H1 H2 := P6 nx ndx e2;have T2 := T1.same n2;have hel : es.length = s.log.length := E6 ep1;refine ⟨A.el, _, _, rfl, rfl, n2 _ _ el1, (by rw [Ac, hel]; exact C0 (by omega)), ?_⟩;have ep2 : Paired (fun a e => Ob c.E eK H2 a (ev e)) (es ++ [x]) (s.log ++ [⟨s.seq, s.now, k, w, r⟩]) := Hy (b := ⟨s.seq, s.now, k, w, r⟩) (Cd (fun _ _ o => o.new n2) ep1) o2;have T3 := T2.evs ep2;rw [Bb] at T3;have k3 : Bj A H (upd H2 A.el (.lst (es.map V.ref ++ [V.ref x]))) := (k1.trans (Bj.new n2)).trans (Bj.own (by simp [AD.own]));generalize hH3 : upd H2 A.el (.lst (es.map V.ref ++ [V.ref x])) = H3;have T3 : Tab c A H3 { s with seq := s.seq + 1, log := s.log ++ [⟨s.seq, s.now, k, w, r⟩] } := by rw [← hH3]; exact T3
  have k3 : Bj A H H3 := by rw [← hH3]; exact k3
  have el3 : H3 A.el = some (.lst ((es ++ [x]).map V.ref)) := by rw [← hH3, Ao, Bb]; rfl
  have ep3 : Paired (fun a e => Ob c.E eK H3 a (ev e)) (es ++ [x]) (s.log ++ [⟨s.seq, s.now, k, w, r⟩]) := by
   rw [← hH3];exact Cd (fun _ _ o => o.else F6.upd (o.off (n2 _ _ el1) B4).symm) ep2
  obtain ⟨dp3, hp3, lp3⟩ := id T3.pp;refine ⟨_, rfl, _, _, _, _, _, rfl, hp3, cP.cls, cP.n 1 rfl, cP.l lp3 1 rfl, _, _, rfl, .inl (SqL.of el3), _, _, rfl, rfl, _, rfl, Cm (fun hlt => ?_) (fun hlt => ?_)⟩
  ·have hlt := of_decide_eq_true hlt;have hl3 := E6 ep3;rw [Ac, hl3] at hlt;have hlt : 64 < (s.log ++ [(⟨s.seq, s.now, k, w, r⟩ : Dg)]).length := by omega
   cases hlg : s.log with
   | nil => rw [hlg] at hlt; simp at hlt
   | cons a t =>
    have ha : (s.log ++ [(⟨s.seq, s.now, k, w, r⟩ : Dg)])[0]? = some a := by rw [hlg]; rfl
    obtain ⟨y, hy, oy⟩ := M7 ep3 ha;refine ⟨_, rfl, A.pp, dp3, _, rfl, hp3, Le (by decide +kernel), _, rfl, _, _, _, _, _, rfl, hp3, cP.cls, cP.n 1 rfl, cP.l lp3 1 rfl, .inl ⟨rfl, _, SqL.of el3⟩, A.el, _, _, 0, V.ref y, rfl, rfl, el3, by decide, by decide, ?_, ?_, ?_⟩
    ·rw [Ac, hl3];unfold seqIndex?;have : (0 : Int) < ((s.log ++ [(⟨s.seq, s.now, k, w, r⟩ : Dg)]).length : Int) := by omega
     simp [this]
    ·rw [Ap, hy]; rfl
    ·have T4 := T3.evs (Ke 0 ep3);have em : ((es ++ [x]).map V.ref).eraseIdx 0 = ((es ++ [x]).eraseIdx 0).map V.ref := by cases (es ++ [x]) <;> rfl
     rw [em];have k4 : Bj A H (upd H3 A.el (.lst (((es ++ [x]).eraseIdx 0).map V.ref))) := k3.trans (Bj.own (by simp [AD.own]));have hlog := hlog;have hlow' := hlow;rw [hlg] at hlog hlow';refine ⟨A, _, y, a, rfl, T4, oy.else F6.upd (oy.off el3 B4).symm, hlog.1, hlow'.1, hlog.2.1, fun H5 T5 k5 => ?_⟩;refine ⟨_, rfl, ?_⟩;have ee : (s.log ++ [(⟨s.seq, s.now, k, w, r⟩ : Dg)]).eraseIdx 0 = t ++ [⟨s.seq, s.now, k, w, r⟩] := by rw [hlg]; rfl
     have T6 : Tab c A H5 (Bd s k w r) := by
      rw [Ae5 hlg hlt, ← ee];exact T5
     exact q H5 T6 (k4.trans k5)
  ·have hl3 := E6 ep3;have hlt : ¬ 64 < (s.log ++ [(⟨s.seq, s.now, k, w, r⟩ : Dg)]).length := fun z => hlt (decide_eq_true (by rw [Ac, hl3]; omega));refine ⟨_, rfl, ?_⟩;rw [← Ab4 hlt] at T3;exact q H3 T3 k3
def Tp (c : Cs) : Sp := fun vs H Q _ => ∃ A s, vs = [.ref (AD.t A)] ∧ Tab c A H s ∧ Q (.bl (Al.silence s).isSome) H
theorem Tz : A8 ["table"] ["table"] (Ar s_is_silent) := by constructor<;>first|rfl|decide +kernel
theorem Us (D : De K mg "is_silent" s_is_silent ["table"]) (cT : CK K c.T tK) : Fn P w K mg base "is_silent" 1 ["table"] (Tp c) := by
 refine D.fn fun f fd F => F.ok Tz (fun vs H Q E h => ?_) (fun cdv A outer s H vs Q E hr h => ?_)
 ·obtain ⟨A, s, rfl, _⟩ := h;rfl
 ·obtain ⟨A, s, rfl, T, q⟩ := h;refine ⟨_, (Ai (A1 (Ji Kb (An (pv 0) rfl) (An (pv 0) rfl) (Cq _)))), ?_⟩;obtain ⟨st, hd, ⟨dt, ht, lt⟩, si⟩ := T.tab;refine ⟨_, rfl, _, _, _, _, _, rfl, ht, cT.cls, cT.n 2 rfl, cT.l lt 2 rfl, _, rfl, _, _, _, _, _, rfl, ht, cT.cls, cT.n 4 rfl, cT.l lt 4 rfl, _, _, rfl, rfl, ?_⟩;have e : decide ((s.now : Int) < (st : Int)) = s.silence.isSome := by
   rw [si];unfold Hw
   by_cases h : s.now < st
   ·rw [if_pos h, decide_eq_true (by omega)]; rfl
   ·rw [if_neg h, decide_eq_false (by omega)]; rfl
  show Q (.bl (decide ((s.now : Int) < (st : Int)))) H;rw [e];exact q
def Qq (c : Cs) : Sp := fun vs H Q _ => ∃ (A : AD) (s : Al) (k : Nat) (p : Addr) (x : Bo), vs = [.ref A.t, .ref p] ∧ A.ks[k]? = some p ∧ s.kinds[k]? = some x ∧ Tab c A H s ∧ Q (.bl (decide (s.now < x.shelf))) H
theorem Rr : A8 ["table", "kind"] ["table", "kind"] (Ar s_is_shelved) := by constructor<;>first|rfl|decide +kernel
theorem Sa (D : De K mg "is_shelved" s_is_shelved ["table", "kind"]) (cT : CK K c.T tK) (cK : CK K c.K kK) : Fn P w K mg base "is_shelved" 1 ["table", "kind"] (Qq c) := by
 refine D.fn fun f fd F => F.ok Rr (fun vs H Q E h => ?_) (fun cdv A outer s H vs Q E hr h => ?_)
 ·obtain ⟨A, s, k, p, x, rfl, _⟩ := h;rfl
 ·obtain ⟨A, s, k, p, x, rfl, hk, hx, T, q⟩ := h;refine ⟨_, (Ai (A1 (Ji Kb (An (pv 0) rfl) (An (pv 1) rfl) (Cq _)))), ?_⟩;obtain ⟨st, hd, ⟨dt, ht, lt⟩, si⟩ := T.tab;obtain ⟨dk, hp, lk⟩ := T.kin k p x hk hx;refine ⟨_, rfl, _, _, _, _, _, rfl, ht, cT.cls, cT.n 2 rfl, cT.l lt 2 rfl, _, rfl, _, _, _, _, _, rfl, hp, cK.cls, cK.n 9 rfl, cK.l lk 9 rfl, _, _, rfl, rfl, ?_⟩;have e : decide ((s.now : Int) < (x.shelf : Int)) = decide (s.now < x.shelf) := decide_eq_decide.mpr (by omega);show Q (.bl (decide ((s.now : Int) < (x.shelf : Int)))) H;rw [e];exact q
def Sz (w : Nat) (s : Al) (r : Nat) : Al := if w ≤ 2 then C3 s r else s
def Lu (o : Option (Nat × Nat)) (r : Nat) : Option (Nat × Nat) := match o with
 | some (u, l) => if l ≤ r then none else some (u, l)
 | none => none
theorem Kg (s : Al) (r : Nat) : C3 s r = { s with silence := Lu s.silence r } := by
 obtain ⟨ks, ln, nw, sq, si, fi, lg, ba⟩ := s;unfold C3 Lu
 cases si with
 | none => rfl
 | some p =>
  obtain ⟨a, l⟩ := p;simp only
  split <;> rfl
theorem Agw (s : Al) (si : Option (Nat × Nat)) (k w q : Nat) : Bd { s with silence := si } k w q = { Bd s k w q with silence := si } := by
 obtain ⟨ks, ln, nw, sq, si, fi, lg, ba⟩ := s;unfold Bd
 cases lg with
 | nil => rfl
 | cons a t => simp only; split <;> rfl
theorem Aet (s : Al) (r k w q : Nat) : Bd (C3 s r) k w q = C3 (Bd s k w q) r := by
 rw [Kg, Kg, Agw, W8]
theorem Yu (now st hd r : Nat) : Lu (Hw now st hd) r = if hd ≤ r then Hw now 0 0 else Hw now st hd := by
 unfold Hw Lu
 by_cases h : now < st
 ·rw [if_pos h];simp
 ·rw [if_neg h];simp
def Fg (c : Cs) : Sp := fun vs H Q _ => ∃ (A : AD) (s : Al) (k w : Nat) (p : Addr) (x : Bo), vs = [.ref A.t, .ref p, .int w] ∧ A.ks[k]? = some p ∧ s.kinds[k]? = some x ∧ Tab c A H s ∧ J3 s.base s.log ∧ Low s.base s.log ∧ s.log.length ≤ 64 ∧
 ∀ H', Tab c A H' (Sz w (Bd s k w (B3 x.up)) (B3 x.up)) → Bj A H H' → Q (.int s.seq) H'
theorem Pd : A8 ["table", "kind", "what"] ["table", "kind", "what"] (Ar s_write_event) := by constructor<;>first|rfl|decide +kernel
theorem Pt (D : De K mg "write_event" s_write_event ["table", "kind", "what"]) (cT : CK K c.T tK) (cK : CK K c.K kK) (cP : CK K c.P pK) (M : Tops mg) (DW : Me P w K mg base c.P "write" 4 ["self", "clock", "kind", "what", "rank"] (X3 c)) :
  Fn P w K mg base "write_event" 5 ["table", "kind", "what"] (Fg c) := by
 refine D.fn fun f fd F => F.ok Pd (fun vs H Q E h => ?_) (fun cdv A outer s H vs Q E hr h => ?_)
 ·obtain ⟨A, s, k, w, p, x, rfl, _⟩ := h;rfl
 ·obtain ⟨A, s, k, w, p, x, rfl, hk, hx, T, hlog, hlow, hlen, q⟩ := h;refine ⟨_, (Ab (Ca (PW.pt (Acs (B6 Qx (pv 2) (Ag3 (Aa (C7 M.RAISED rfl) (Aa (C7 M.GREW rfl) (Aa (C7 M.SOUNDED_AGAIN rfl) Ag)))) (by rfl)) (Ye (B6 Abb (An (pv 1) rfl) (An (pv 0) rfl) (Cq _))))) (Ab (Bq (pv 0) Ax rfl)
   (Ai (Bq (pv 0) Ax rfl))) Bg)
   (Ai (A1 (Ry DW (An (pv 0) rfl) (hr.mono (by decide)) (Aa (An (pv 0) rfl) (Aa (An (pv 1) rfl) (Aa (pv 2) (Aa (An (pv 1) rfl) Ag)))))))), ?_⟩
  have back : ∀ (H1 : Hp) (s1 : Al), Tab c A H1 s1 → Bj A H H1 → s1 = (if w ≤ 2 then C3 s (B3 x.up) else s) → ∃ v, v = [some (V.ref A.t), some (.ref p), some (.int w)] ∧
    tRet (Aax c.P "write" (X3 c) [] E0 (K8 K (Fj 0) "paper") (Hv (K8 K (Fj 0) "clock") (Hv (K8 K (Fj 1) "number") (Hv (Fj 2) (Hv (K8 K (Fj 1) "rank_now") Nv))))) { nx := fun _ H' => Q .non H', rt := Q } v H1 := fun H1 s1 T1 k1 e1 => by
   have e2 : s1.kinds = s.kinds ∧ s1.base = s.base ∧ s1.log = s.log ∧ s1.seq = s.seq ∧ s1.now = s.now := by
    obtain ⟨si, e⟩ := Qz s (B3 x.up);rw [e1]
    split
    ·rw [e]; exact ⟨rfl, rfl, rfl, rfl, rfl⟩
    ·exact ⟨rfl, rfl, rfl, rfl, rfl⟩
   obtain ⟨st, hd, ⟨dt, ht, lt⟩, si⟩ := T1.tab;obtain ⟨dk, hp, lk⟩ := T1.kin k p x hk (by rw [e2.1]; exact hx);obtain ⟨dp, hpp, lp⟩ := id T1.pp;refine ⟨_, rfl, _, rfl, _, _, _, _, _, rfl, ht, cT.cls, cT.n 3 rfl, cT.l lt 3 rfl, A.pp, dp, _, rfl, hpp, Le (by decide +kernel), _, rfl, _, _, _, _, _, rfl, ht, cT.cls, cT.n 2 rfl, cT.l lt 2 rfl, _, rfl, _, _, _, _, _, rfl, hp, cK.cls, cK.n 0 rfl, cK.l lk 0 rfl,
    _, rfl, _, rfl, _, _, _, _, _, rfl, hp, cK.cls, cK.n 11 rfl, cK.l lk 11 rfl, A, s1, k, w, B3 x.up, rfl, T1, by rw [e2.2.1, e2.2.2.1]; exact hlog, by rw [e2.2.1, e2.2.2.1]; exact hlow, by rw [e2.2.2.1]; exact hlen, fun H2 T2 k2 => ?_⟩
   have e3 : Bd s1 k w (B3 x.up) = Sz w (Bd s k w (B3 x.up)) (B3 x.up) := by
    rw [e1];unfold Sz
    split
    ·exact Aet s _ k w _
    ·rfl
   rw [e3] at T2;show Q (.int s1.seq) H2;rw [e2.2.2.2.1];exact q H2 T2 (k1.trans k2)
  obtain ⟨st, hd, ot, si⟩ := T.tab;obtain ⟨dt, ht, lt⟩ := id ot;obtain ⟨dk, hp, lk⟩ := T.kin k p x hk hx;refine ⟨_, rfl, (by show 3 ≤ sizeLine; decide), fun y ny => ?_⟩;have n1 : New H (upd H y (.tup [.int 0, .int 1, .int 2])) := New.upd ny;refine ⟨y, _, rfl, .inr (SqT.of Ao), rfl, rfl, _, rfl, ?_⟩;generalize upd H y (.tup [.int 0, .int 1, .int 2]) = H1 at n1;have T1 := T.same n1;have ein : inV (V.int w) [.int 0, .int 1, .int 2] = decide (w ≤ 2) := by
   unfold inV eqV;simp only [Gf, List.any_nil, Bool.or_false]
   by_cases h : w ≤ 2
   ·rw [decide_eq_true h];have : w = 0 ∨ w = 1 ∨ w = 2 := by omega
    rcases this with rfl | rfl | rfl <;> rfl
   ·rw [decide_eq_false h];have h0 : ((0 : Int) == (w : Int)) = false := by simp; omega
    have h1 : ((1 : Int) == (w : Int)) = false := by simp; omega
    have h2 : ((2 : Int) == (w : Int)) = false := by simp; omega
    rw [h0, h1, h2]; rfl
  show if inV (V.int w) [.int 0, .int 1, .int 2] = true then _ else _;rw [ein];refine Cm (fun hw => ?_) (fun hw => ?_)
  ·have hw := of_decide_eq_true hw;refine ⟨_, rfl, _, _, _, _, _, rfl, n1 _ _ hp, cK.cls, cK.n 11 rfl, cK.l lk 11 rfl, _, rfl, _, _, _, _, _, rfl, n1 _ _ ht, cT.cls, cT.n 5 rfl, cT.l lt 5 rfl, _, _, rfl, rfl, _, rfl, Cm (fun hge => ?_) (fun hge => ?_)⟩
   ·have hge : hd ≤ B3 x.up := by have := of_decide_eq_true hge; omega
    refine ⟨_, rfl, ?_⟩;refine (ot.new n1).put cT 4 rfl fun H2 o2 e2 => ?_;refine ⟨_, rfl, ?_⟩;refine o2.put cT 5 rfl fun H3 o3 e3 => ?_;have T3 : Tab c A H3 (C3 s (B3 x.up)) := by
     refine T1.top (st' := 0) (hd' := 0) (e2.trans e3) ?_ ?_ ?_ ?_ ?_ ?_ ?_
     ·rw [Kg]; exact o3
     all_goals rw [Kg]
     show Lu s.silence (B3 x.up) = Hw s.now 0 0;rw [si, Yu, if_pos hge]
    obtain ⟨_, rfl, z⟩ := back H3 _ T3 ((Bj.new n1).trans (Bj.else (ot.new n1) (e2.trans e3))) (by rw [if_pos hw]);exact z
   ·have hge : ¬ hd ≤ B3 x.up := fun z => hge (decide_eq_true (by omega));have es : C3 s (B3 x.up) = s := by
     rw [Kg];show ({ s with silence := Lu s.silence (B3 x.up) } : Al) = s;have : Lu s.silence (B3 x.up) = s.silence := by rw [si, Yu, if_neg hge]
     rw [this]
    obtain ⟨_, rfl, z⟩ := back H1 _ T1 (Bj.new n1) (by rw [if_pos hw, es]);exact z
  ·have hw : ¬ w ≤ 2 := fun z => hw (decide_eq_true z);obtain ⟨_, rfl, z⟩ := back H1 _ T1 (Bj.new n1) (by rw [if_neg hw]);exact iteF z
end
structure Np (s : Al) : Prop where
 log : J3 s.base s.log
 low : Low s.base s.log
 len : s.log.length ≤ 64
theorem Well.pap {s : Al} (W : Well s) : Np s := ⟨W.log, W.low, W.len⟩
theorem Np.put {s : Al} (W : Np s) (k : Nat) (x : Bo) : Np (Au s k x) := ⟨W.log, W.low, W.len⟩
theorem Agz (s : Al) (fi : Option Nat) (k w q : Nat) : Bd { s with first := fi } k w q = { Bd s k w q with first := fi } := by
 obtain ⟨ks, ln, nw, sq, si, f, lg, ba⟩ := s;unfold Bd
 cases lg with
 | nil => rfl
 | cons a t => simp only; split <;> rfl
theorem Aeu (s : Al) (fi : Option Nat) (r : Nat) : C3 { s with first := fi } r = { C3 s r with first := fi } := by
 rw [Kg, Kg]
theorem Zq (s : Al) (r : Nat) : (C3 s r).first = s.first := by rw [Kg]
theorem Gj {s : Al} {k : Nat} {x y : Bo} (h : s.kinds[k]? = some x) : (Au s k y).kinds[k]? = some y := Bm (Af.mp h).1
theorem Y6 (s : Al) (k : Nat) (x : Bo) : Ec s k x = { Au (C3 (Bd s k 0 x.rank) x.rank) k { x with held := 0, up := some ⟨s.seq, x.rank, false, 0⟩ } with first := if s.first = none then some k else s.first } := by
 show C3 (Bd { Au s k { x with held := 0, up := some ⟨s.seq, x.rank, false, 0⟩ } with first := if s.first = none then some k else s.first } k 0 x.rank) x.rank = _;rw [Agz, Aeu, Lo, Ni]
section
variable {P : Program} {w : World} {K : Ad} {mg : Str → Option Value} {base : Heap} {C : Addr} {c : Cs}
def Ny (c : Cs) (ok : Al → Bo → Prop) (g : Al → Nat → Bo → Al) : Sp := fun vs H Q _ => ∃ (A : AD) (s : Al) (k : Nat) (p : Addr) (x : Bo), vs = [.ref A.t, .ref p] ∧ A.ks[k]? = some p ∧ s.kinds[k]? = some x ∧ Tab c A H s ∧ ok s x ∧
 ∀ H', Tab c A H' (g s k x) → Bj A H H' → Q .non H'
abbrev Tq (c : Cs) : Sp := Ny c (fun s _ => Np s) (fun s k x => Ec s k x)
theorem Rq : A8 ["table", "kind"] ["table", "kind"] (Ar s_raise_kind) := by constructor<;>first|rfl|decide +kernel
theorem R8 (D : De K mg "raise_kind" s_raise_kind ["table", "kind"]) (cT : CK K c.T tK) (cK : CK K c.K kK) (M : Tops mg) (DW : Fn P w K mg base "write_event" 5 ["table", "kind", "what"] (Fg c)) :
  Fn P w K mg base "raise_kind" 6 ["table", "kind"] (Tq c) := by
 refine D.fn fun f fd F => F.ok Rq (fun vs H Q E h => ?_) (fun cdv A outer s H vs Q E hr h => ?_)
 ·obtain ⟨A, s, k, p, x, rfl, _⟩ := h;rfl
 ·obtain ⟨A, s, k, p, x, rfl, hk, hx, T, W, q⟩ := h;refine ⟨_, (Ab (Bq (pv 1) K1 rfl)
   (Ab (Bq (pv 1) (An (pv 1) rfl) rfl)
   (Ab (Bq (pv 1) K1 rfl)
   (Ab (Bq (pv 1) Ax rfl)
   (Ab (Bq (pv 1) Ax rfl)
   (Ab (Bq (pv 1) (Br DW (hr.mono (by decide)) rfl (Aa (pv 0) (Aa (pv 1) (Aa (C7 M.RAISED rfl) Ag)))) rfl)
   (Ai (Ca (B6 Ag7 (An (pv 0) rfl) Pp (Cq _)) (Ai (Bq (pv 0) (An (pv 1) rfl) rfl)) Bg)))))))), ?_⟩
  have o := T.kin k p x hk hx;refine ⟨_, rfl, ?_⟩;refine o.put cK 10 rfl fun H1 o1 e1 => ?_;obtain ⟨d1, h1, l1⟩ := id o1;refine ⟨_, rfl, _, _, _, _, _, rfl, h1, cK.cls, cK.n 1 rfl, cK.l l1 1 rfl, _, rfl, ?_⟩;refine o1.put cK 11 rfl fun H2 o2 e2 => ?_;refine ⟨_, rfl, ?_⟩;refine o2.put cK 12 rfl fun H3 o3 e3 => ?_;refine ⟨_, rfl, ?_⟩;refine o3.put cK 13 rfl fun H4 o4 e4 => ?_;refine ⟨_, rfl, ?_⟩;refine o4.put cK 8 rfl fun H5 o5 e5 => ?_;have e15 := (((e1.trans e2).trans e3).trans e4).trans e5;have T1 : Tab c A H5 (Au s k { x with held := 0, up := some ⟨Rk x.up, x.rank, false, 0⟩ }) := T.kind hk hx e15 o5;refine ⟨_, rfl, _, rfl, A, _, k, 0, p, _, rfl, hk, Gj hx, T1, W.log, W.low, W.len, fun H6 T6 k6 => ?_⟩;have T6 : Tab c A H6 (Au (C3 (Bd s k 0 x.rank) x.rank) k { x with held := 0, up := some ⟨Rk x.up, x.rank, false, 0⟩ }) := by
   have e : Sz 0 (Bd (Au s k { x with held := 0, up := some ⟨Rk x.up, x.rank, false, 0⟩ }) k 0 x.rank) x.rank = _ := if_pos (by decide);rw [← Ni, ← Lo, ← e];exact T6
  have hx6 : (C3 (Bd s k 0 x.rank) x.rank).kinds[k]? = some x := by rw [Oc, Ff]; exact hx
  have o6 := T6.kin k p _ hk (Gj hx6);refine ⟨_, rfl, ?_⟩;refine o6.put cK 14 rfl fun H7 o7 e7 => ?_;have T7 := T6.kind (x' := { x with held := 0, up := some ⟨s.seq, x.rank, false, 0⟩ }) hk (Gj hx6) e7 o7;rw [Im] at T7;have k7 : Bj A H H7 := ((Bj.else o e15).trans k6).trans (Bj.else o6 e7);obtain ⟨st, hd, ot, si⟩ := T7.tab;obtain ⟨dt, ht, lt⟩ := id ot;obtain ⟨dk, hp, lk⟩ := T7.kin k p _ hk (Gj hx6);have hf : (Au (C3 (Bd s k 0 x.rank) x.rank) k { x with held := 0, up := some ⟨s.seq, x.rank, false, 0⟩ }).first = s.first := by
   show (C3 (Bd s k 0 x.rank) x.rank).first = s.first;rw [Zq, Ab5]
  refine ⟨_, rfl, _, _, _, _, _, rfl, ht, cT.cls, cT.n 6 rfl, cT.l lt 6 rfl, rfl, _, rfl, Cm (fun hn => ?_) (fun hn => ?_)⟩
  ·have hn : s.first = none := by
    have := of_decide_eq_true hn;rw [hf] at this
    cases h : s.first with
    | none => rfl
    | some j => rw [h] at this; cases this
   refine ⟨_, rfl, _, _, _, _, _, rfl, hp, cK.cls, cK.n 0 rfl, cK.l lk 0 rfl, _, rfl, ?_⟩;refine ot.put cT 6 rfl fun H8 o8 e8 => ?_;refine q H8 ?_ (k7.trans (Bj.else ot e8));show Tab c A H8 (Ec s k x);rw [Y6, if_pos hn];exact T7.top (st' := st) (hd' := hd) e8 o8 si rfl rfl rfl rfl rfl
  ·have hn : ¬ s.first = none := fun z => hn (decide_eq_true (by rw [hf, z]; rfl));refine q H7 ?_ k7;show Tab c A H7 (Ec s k x);rw [Y6, if_neg hn, ← hf];exact T7
def Jn (x : Bo) (f : O1 → O1) : Bo := { x with up := x.up.map f }
abbrev Afw (c : Cs) : Sp := Ny c (fun s x => Np s ∧ x.up.isSome) (fun s k x => C3 (Bd (Au s k (Jn x fun u => { u with rank := u.rank + 1, wait := 0 })) k 1 (B3 x.up + 1)) (B3 x.up + 1))
theorem Ua : A8 ["table", "kind"] ["table", "kind"] (Ar s_grow_rank) := by constructor<;>first|rfl|decide +kernel
theorem Ut (D : De K mg "grow_rank" s_grow_rank ["table", "kind"]) (cK : CK K c.K kK) (M : Tops mg) (DW : Fn P w K mg base "write_event" 5 ["table", "kind", "what"] (Fg c)) :
  Fn P w K mg base "grow_rank" 6 ["table", "kind"] (Afw c) := by
 refine D.fn fun f fd F => F.ok Ua (fun vs H Q E h => ?_) (fun cdv A outer s H vs Q E hr h => ?_)
 ·obtain ⟨A, s, k, p, x, rfl, _⟩ := h;rfl
 ·obtain ⟨A, s, k, p, x, rfl, hk, hx, T, ⟨W, hup⟩, q⟩ := h;obtain ⟨u, hu⟩ := Cz.mp hup;refine ⟨_, (Ab (M5 (pv 1) Ax Zx)
   (Ab (Bq (pv 1) Ax rfl)
   (Ai (Cv (Br DW (hr.mono (by decide)) rfl (Aa (pv 0) (Aa (pv 1) (Aa (C7 M.GREW rfl) Ag)))))))), ?_⟩
  have o := T.kin k p x hk hx;obtain ⟨d0, h0, l0⟩ := id o;refine ⟨_, rfl, _, _, _, _, _, rfl, h0, cK.cls, cK.n 11 rfl, cK.l l0 11 rfl, _, _, rfl, rfl, ?_⟩;refine o.augPut cK 11 rfl fun H1 o1 e1 => ?_;refine ⟨_, rfl, ?_⟩;refine o1.put cK 13 rfl fun H2 o2 e2 => ?_;have e12 := e1.trans e2;have eu : Jn x (fun u => { u with rank := u.rank + 1, wait := 0 }) = { x with up := some { u with rank := u.rank + 1, wait := 0 } } := by unfold Jn; rw [hu]; rfl
  have T1 : Tab c A H2 (Au s k (Jn x fun u => { u with rank := u.rank + 1, wait := 0 })) := by
   refine T.kind hk hx e12 ?_;rw [eu];have : kv k { x with up := some { u with rank := u.rank + 1, wait := 0 } } = ((kv k x).set 11 (V.int ((B3 x.up : Nat) + 1 : Int))).set 13 (V.int 0) := by
    unfold kv;rw [hu];rfl
   rw [this];exact o2
  refine ⟨_, rfl, _, rfl, A, _, k, 1, p, _, rfl, hk, Gj hx, T1, W.log, W.low, W.len, fun H6 T6 k6 => ?_⟩;refine q H6 ?_ ((Bj.else o e12).trans k6);have er : B3 (Jn x fun u => { u with rank := u.rank + 1, wait := 0 }).up = B3 x.up + 1 := by rw [eu, hu]; rfl
  rw [er] at T6;exact T6
abbrev Ya (c : Cs) : Sp := Ny c (fun s x => Np s ∧ x.up.isSome) (fun s k x => C3 (Bd (Au s k (Jn x fun u => { u with acked := false, wait := 0 })) k 2 (B3 x.up)) (B3 x.up))
theorem Pe : A8 ["table", "kind"] ["table", "kind"] (Ar s_sound_again) := by constructor<;>first|rfl|decide +kernel
theorem Pz (D : De K mg "sound_again" s_sound_again ["table", "kind"]) (cK : CK K c.K kK) (M : Tops mg) (DW : Fn P w K mg base "write_event" 5 ["table", "kind", "what"] (Fg c)) :
  Fn P w K mg base "sound_again" 6 ["table", "kind"] (Ya c) := by
 refine D.fn fun f fd F => F.ok Pe (fun vs H Q E h => ?_) (fun cdv A outer s H vs Q E hr h => ?_)
 ·obtain ⟨A, s, k, p, x, rfl, _⟩ := h;rfl
 ·obtain ⟨A, s, k, p, x, rfl, hk, hx, T, ⟨W, hup⟩, q⟩ := h;obtain ⟨u, hu⟩ := Cz.mp hup;refine ⟨_, (Ab (Bq (pv 1) K1 rfl)
   (Ab (Bq (pv 1) Ax rfl)
   (Ai (Cv (Br DW (hr.mono (by decide)) rfl (Aa (pv 0) (Aa (pv 1) (Aa (C7 M.SOUNDED_AGAIN rfl) Ag)))))))), ?_⟩
  have o := T.kin k p x hk hx;refine ⟨_, rfl, ?_⟩;refine o.put cK 12 rfl fun H1 o1 e1 => ?_;refine ⟨_, rfl, ?_⟩;refine o1.put cK 13 rfl fun H2 o2 e2 => ?_;have e12 := e1.trans e2;have eu : Jn x (fun u => { u with acked := false, wait := 0 }) = { x with up := some { u with acked := false, wait := 0 } } := by unfold Jn; rw [hu]; rfl
  have T1 : Tab c A H2 (Au s k (Jn x fun u => { u with acked := false, wait := 0 })) := by
   refine T.kind hk hx e12 ?_;rw [eu];have : kv k { x with up := some { u with acked := false, wait := 0 } } = ((kv k x).set 12 (V.bl false)).set 13 (V.int 0) := by
    unfold kv;rw [hu];rfl
   rw [this];exact o2
  refine ⟨_, rfl, _, rfl, A, _, k, 2, p, _, rfl, hk, Gj hx, T1, W.log, W.low, W.len, fun H6 T6 k6 => ?_⟩;refine q H6 ?_ ((Bj.else o e12).trans k6);have er : B3 (Jn x fun u => { u with acked := false, wait := 0 }).up = B3 x.up := by rw [eu, hu]; rfl
  rw [er] at T6;exact T6
abbrev Acn (c : Cs) : Sp := Ny c (fun s x => Np s ∧ x.up.isSome) (fun s k x => Bd (Au s k (Jn x fun u => { u with acked := true, wait := 0 })) k 3 (B3 x.up))
theorem Pf : A8 ["table", "kind"] ["table", "kind"] (Ar s_acknowledge) := by constructor<;>first|rfl|decide +kernel
theorem P1 (D : De K mg "acknowledge" s_acknowledge ["table", "kind"]) (cK : CK K c.K kK) (M : Tops mg) (DW : Fn P w K mg base "write_event" 5 ["table", "kind", "what"] (Fg c)) :
  Fn P w K mg base "acknowledge" 6 ["table", "kind"] (Acn c) := by
 refine D.fn fun f fd F => F.ok Pf (fun vs H Q E h => ?_) (fun cdv A outer s H vs Q E hr h => ?_)
 ·obtain ⟨A, s, k, p, x, rfl, _⟩ := h;rfl
 ·obtain ⟨A, s, k, p, x, rfl, hk, hx, T, ⟨W, hup⟩, q⟩ := h;obtain ⟨u, hu⟩ := Cz.mp hup;refine ⟨_, (Ab (Bq (pv 1) K1 rfl)
   (Ab (Bq (pv 1) Ax rfl)
   (Ai (Cv (Br DW (hr.mono (by decide)) rfl (Aa (pv 0) (Aa (pv 1) (Aa (C7 M.ACKNOWLEDGED rfl) Ag)))))))), ?_⟩
  have o := T.kin k p x hk hx;refine ⟨_, rfl, ?_⟩;refine o.put cK 12 rfl fun H1 o1 e1 => ?_;refine ⟨_, rfl, ?_⟩;refine o1.put cK 13 rfl fun H2 o2 e2 => ?_;have e12 := e1.trans e2;have eu : Jn x (fun u => { u with acked := true, wait := 0 }) = { x with up := some { u with acked := true, wait := 0 } } := by unfold Jn; rw [hu]; rfl
  have T1 : Tab c A H2 (Au s k (Jn x fun u => { u with acked := true, wait := 0 })) := by
   refine T.kind hk hx e12 ?_;rw [eu];have : kv k { x with up := some { u with acked := true, wait := 0 } } = ((kv k x).set 12 (V.bl true)).set 13 (V.int 0) := by
    unfold kv;rw [hu];rfl
   rw [this];exact o2
  refine ⟨_, rfl, _, rfl, A, _, k, 3, p, _, rfl, hk, Gj hx, T1, W.log, W.low, W.len, fun H6 T6 k6 => ?_⟩;refine q H6 ?_ ((Bj.else o e12).trans k6);have er : B3 (Jn x fun u => { u with acked := true, wait := 0 }).up = B3 x.up := by rw [eu, hu]; rfl
  rw [er] at T6;exact T6
end
theorem Ahp {K : Ad} {c : Cs} {A : AD} {H : Hp} {s : Al} {σ : L2.St} {vs : List Nat} {D : Addr} {g : TG} {tt : TT} {te : TE} {Qd : Hp → Prop} (T : Tab c A H s) (h32 : s.kinds.length ≤ 32) (nD : H D = none) (f : Nat → Option V)
  (hs : ∀ k p x H' acc (N : Hp → Prop), A.ks[k]? = some p → s.kinds[k]? = some x → New H H' → H' D = some (.lst acc) → acc.length < sizeLine → (∀ y, f k = some y → N (upd H' D (.lst (acc ++ [y])))) → (f k = none → N H') →
   g (.ref p) (F9 σ vs) H' fun σ2 H2 => F9 σ2 vs = F9 σ vs ∧ tt σ2 H2 fun b H3 => if b = true then te σ2 H3 fun y H4 => ∃ acc, H4 D = some (.lst acc) ∧ acc.length < sizeLine ∧ N (upd H4 D (.lst (acc ++ [y]))) else N H3)
  (hd : Qd (upd H D (.lst ((Be s.kinds.length).filterMap f)))) :
  ∃ W : Nat → Nat → Hp → Prop, (∃ m, W 0 m (upd H D (.lst []))) ∧ ∀ i m H, W i m H →
   ((Itl K A.kl).stop i H ∧ Qd H) ∨ ((Itl K A.kl).go i H ∧ ∃ Nx : Hp → Prop, (∀ H', Nx H' → ∃ m', m' < m ∧ W (i + 1) m' H') ∧ ∀ x H', (Itl K A.kl).yld i H x H' → g x (F9 σ vs) H' fun σ2 H2 => F9 σ2 vs = F9 σ vs ∧ tt σ2 H2 fun b H3 =>
    if b = true then te σ2 H3 fun y H4 => ∃ acc, H4 D = some (.lst acc) ∧ acc.length < sizeLine ∧ Nx (upd H4 D (.lst (acc ++ [y]))) else Nx H3) := by
 refine Q0 (K := K) (xs := A.ks.map V.ref) (fun i H' => H' = upd H D (.lst ((Be i).filterMap f))) rfl (fun i H' _ e => ?_) (fun i y H' hi e => ?_) (fun H' e => ?_)
 ·subst e;exact SqL.of ((New.upd nD) _ _ T.kl)
 ·subst e;rw [Ap] at hi
  cases hp : A.ks[i]? with
  | none => rw [hp] at hi; cases hi
  | some p =>
   rw [hp] at hi;have ey : y = V.ref p := (Ah hi).symm;subst ey;have hl : i < s.kinds.length := by rw [← T.klen]; exact (Af.mp hp).1
   refine hs i p s.kinds[i] _ ((Be i).filterMap f) _ hp (Aq hl) (New.upd nD) Ao ?_ (fun y hy => ?_) (fun hn => ?_)
   ·have := Rj f (Be i);rw [Ct] at this;exact C0 (by omega)
   ·rw [Lg, Fc, Hk, Ci, hy, J5]
   ·rw [Fc, Hk, Ci, hn, J5, B8]
 ·subst e;rw [Ac, T.klen];exact hd
theorem Mh (s : Al) : Dr s = if (Aj s).length = 0 then { s with first := none } else s := by
 unfold Dr;have e : D9 s = [] ↔ (Aj s).length = 0 := by
  rw [Tg];unfold D9 Aj;rw [List.filter_eq_nil_iff, List.filterMap_eq_nil_iff]
  constructor
  ·intro h k hk;have := h k hk;rw [Kh] at this;rw [C6]
   cases hu : Eg s k with
   | none => rfl
   | some u => rw [hu] at this; exact absurd rfl this
  ·intro h k hk;have := h k hk;rw [C6] at this;rw [Kh]
   cases hu : Eg s k with
   | none => simp
   | some u => rw [hu] at this; cases this
 by_cases h : D9 s = []
 ·rw [if_pos h, if_pos (e.mp h)]
 ·rw [if_neg h, if_neg fun z => h (e.mpr z)]
theorem Ip {α β : Type} (g : α → β) (l : List α) : l.filterMap (fun k => some (g k)) = l.map g := by
 induction l with
 | nil => rfl
 | cons a l ih => rw [Ci, Bc, ih]
section
variable {P : Program} {w : World} {K : Ad} {mg : Str → Option Value} {base : Heap} {C : Addr} {c : Cs}
def Ir (A : AD) (l : List Bk) : List Addr := l.map fun r => A.ks.getD r.kind 0
def upV (s : Al) (A : AD) (k : Nat) : Option V := (Eg s k).bind fun _ => (A.ks[k]?).map V.ref
theorem Ym (s : Al) (A : AD) : ∀ l : List Nat, (∀ k ∈ l, k < A.ks.length) → l.filterMap (upV s A) = (Ir A (l.filterMap fun k => Vf s k)).map V.ref
 | [], _ => rfl
 | k :: l, h => by
  have ih := Ym s A l fun j hj => h j (Am _ hj);have hk := h k A0;unfold Ir at ih ⊢;rw [Ci, Ci, ih, C6];unfold upV
  cases Eg s k with
  | none => rfl
  | some u =>
   simp only [Option.bind_some, Option.map_some];rw [Aq hk];simp [hk]
def Ie (c : Cs) : Sp := fun vs H Q _ => ∃ (A : AD) (s : Al), vs = [.ref A.t] ∧ Tab c A H s ∧ s.kinds.length ≤ 32 ∧ ∀ H' p, New H H' → H p = none → H' p = some (.lst ((Ir A (Aj s)).map V.ref)) → Q (.ref p) H'
theorem Hl : A8 ["table", "kind"] ["table"] (Ar s_raised_kinds) := by constructor<;>first|rfl|decide +kernel
theorem Ox (D : De K mg "raised_kinds" s_raised_kinds ["table"]) (cT : CK K c.T tK) (cK : CK K c.K kK) : Fn P w K mg base "raised_kinds" 1 ["table"] (Ie c) := by
 refine D.fn fun f fd F => F.ok Hl (fun vs H Q E h => ?_) (fun cdv A outer s H vs Q E hr h => ?_)
 ·obtain ⟨A, s, rfl, _⟩ := h;rfl
 ·obtain ⟨A, s, rfl, T, W, q⟩ := h;refine ⟨_, (Ai (A1 (Zc (own := [("kind", 1)]) (g := Jv 1) (tt := tB (K8 K (Fj 1) "raised")) (te := Fj 1) rfl Hl.nd (Es (An (pv 0) rfl)) (Gb (N := ["table", "kind"]) (sc := Ar s_raised_kinds) (by decide +kernel)) (fun _ _ _ _ _ => Dj (i := 1) Hl.nd rfl (A7 rfl)) (fun _ _ _ _ _ => N4 (Ck (An (pv 1) rfl))) (fun _ _ _ _ _ => pv 1)))), ?_⟩;obtain ⟨st, hd, ⟨dt, ht, lt⟩, si⟩ := T.tab;refine ⟨_, rfl, _, _, _, _, _, rfl, ht, cT.cls, cT.n 0 rfl, cT.l lt 0 rfl, A.kl, rfl, ⟨_, SqL.of T.kl⟩, fun D nD => ?_⟩;refine Ahp T W nD (upV s A) (fun j p' x' H' acc N hk' hx' n hD hz h1 h2 => ?_) ?_
  ·obtain ⟨dk, hp, lk⟩ := T.kin j p' x' hk' hx';have eu : Eg s j = x'.up := Fp hx';refine ⟨rfl, ?_⟩;refine ⟨_, rfl, _, _, _, _, _, rfl, n _ _ hp, cK.cls, cK.n 10 rfl, cK.l lk 10 rfl, _, rfl, Cm (fun hup => ?_) (fun hup => ?_)⟩
   ·obtain ⟨u, hu⟩ := Cz.mp hup;refine ⟨_, rfl, acc, hD, hz, ?_⟩;exact h1 (V.ref p') (by unfold upV; rw [eu, hu, hk']; rfl)
   ·refine h2 ?_;have hu : x'.up = none := by
     cases hu : x'.up with
     | none => rfl
     | some u => rw [hu] at hup; exact absurd rfl hup
    unfold upV;rw [eu, hu];rfl
  ·have n6 := New.upd (o := .lst ((Be s.kinds.length).filterMap (upV s A))) nD;have hD6 : upd H D (.lst ((Be s.kinds.length).filterMap (upV s A))) D = some (.lst ((Be s.kinds.length).filterMap (upV s A))) := Ao;generalize upd H D (.lst ((Be s.kinds.length).filterMap (upV s A))) = H6 at n6 hD6;rw [Ym s A _ (fun k hk => by rw [T.klen]; exact Cp.mp hk)] at hD6;exact q H6 D n6 nD hD6
abbrev X6 (c : Cs) : Sp := Ny c (fun s _ => s.kinds.length ≤ 32) (fun s k x => Dr (Au s k { x with up := none }))
theorem Ae4 : A8 ["table", "kind"] ["table", "kind"] (Ar s_lower) := by constructor<;>first|rfl|decide +kernel
theorem Aei (D : De K mg "lower" s_lower ["table", "kind"]) (cT : CK K c.T tK) (cK : CK K c.K kK) (M : Tops mg) (DK : Fn P w K mg base "raised_kinds" 1 ["table"] (Ie c)) : Fn P w K mg base "lower" 2 ["table", "kind"] (X6 c) := by
 refine D.fn fun f fd F => F.ok Ae4 (fun vs H Q E h => ?_) (fun cdv A outer s H vs Q E hr h => ?_)
 ·obtain ⟨A, s, k, p, x, rfl, _⟩ := h;rfl
 ·obtain ⟨A, s, k, p, x, rfl, hk, hx, T, W, q⟩ := h;refine ⟨_, (Ab (Bq (pv 1) K1 rfl)
   (Ab (Bq (pv 1) Ax rfl)
   (Ab (Bq (pv 1) K1 rfl)
   (Ab (Bq (pv 1) Ax rfl)
   (Ab (Bq (pv 1) Ax rfl)
   (Ai (Ca (B6 M8 (C1 C2 (by rfl) M.no_len Cw (Aa (Br DK (hr.mono (by decide)) rfl (Aa (pv 0) Ag)) Ag)) Ax (Cq _)) (Ai (Bq (pv 0) Pp rfl)) Bg))))))), ?_⟩
  have o := T.kin k p x hk hx;refine ⟨_, rfl, ?_⟩;refine o.put cK 10 rfl fun H1 o1 e1 => ?_;refine ⟨_, rfl, ?_⟩;refine o1.put cK 11 rfl fun H2 o2 e2 => ?_;refine ⟨_, rfl, ?_⟩;refine o2.put cK 12 rfl fun H3 o3 e3 => ?_;refine ⟨_, rfl, ?_⟩;refine o3.put cK 13 rfl fun H4 o4 e4 => ?_;refine ⟨_, rfl, ?_⟩;refine o4.put cK 14 rfl fun H5 o5 e5 => ?_;have e15 := (((e1.trans e2).trans e3).trans e4).trans e5;have T1 : Tab c A H5 (Au s k { x with up := none }) := T.kind hk hx e15 o5;have k1 : Bj A H H5 := Bj.else o e15;have W1 : (Au s k { x with up := none }).kinds.length ≤ 32 := by show (s.kinds.set k _).length ≤ 32; rw [Dh]; exact W
  generalize hs1 : Au s k { x with up := none } = s1 at T1 W1;refine ⟨_, rfl, A, s1, rfl, T1, W1, fun H6 l n6 nl hl => ?_⟩;have T6 := T1.same n6;have k6 := k1.trans (Bj.new (A := A) n6);obtain ⟨st, hd, ot, si⟩ := T6.tab;refine ⟨l, _, rfl, .inl (SqL.of hl), rfl, _, rfl, Cm (fun ha => ?_) (fun ha => ?_)⟩
  ·have ha : (Aj s1).length = 0 := by
    have := V.int.inj (of_decide_eq_true ha);rw [Ac] at this;unfold Ir at this;rw [Ac] at this;omega
   refine ⟨_, rfl, ?_⟩;refine ot.put cT 6 rfl fun H7 o7 e7 => ?_;refine q H7 ?_ (k6.trans (Bj.else ot e7));show Tab c A H7 (Dr (Au s k { x with up := none }));rw [hs1, Mh, if_pos ha];exact T6.top (st' := st) (hd' := hd) e7 o7 si rfl rfl rfl rfl rfl
  ·have ha : ¬ (Aj s1).length = 0 := fun z => ha (decide_eq_true (by
    unfold Ir;rw [Ac, Ac, z];rfl))
   refine q H6 ?_ k6;show Tab c A H6 (Dr (Au s k { x with up := none }));rw [hs1, Mh, if_neg ha];exact T6
theorem Tab.row {A : AD} {H : Hp} {s : Al} (T : Tab c A H s) {r : Bk} (h : Vf s r.kind = some r) : ∃ x u, A.ks[r.kind]? = some (A.ks.getD r.kind 0) ∧ s.kinds[r.kind]? = some x ∧ x.up = some u ∧ r.seq = u.seq ∧ r.rank = u.rank ∧ r.acked = u.acked := by
 have hlt : r.kind < s.kinds.length := by
  unfold Vf at h
  cases hx : s.kinds[r.kind]? with
  | none => rw [hx] at h; cases h
  | some x => exact (Af.mp hx).1
 have hx : s.kinds[r.kind]? = some s.kinds[r.kind] := Aq hlt;have hp : A.ks[r.kind]? = some (A.ks.getD r.kind 0) := by rw [O6, Aq (by rw [T.klen]; exact hlt)]; rfl
 rw [C6, Fp hx] at h
 cases hu : s.kinds[r.kind].up with
 | none => rw [hu] at h; cases h
 | some u =>
  rw [hu] at h;have e := Ah h;refine ⟨_, u, hp, hx, hu, ?_, ?_, ?_⟩ <;> rw [← e]
theorem Ra {A : AD} {l : List Bk} {i : Nat} {y : V} (h : ((Ir A l).map V.ref)[i]? = some y) : ∃ r, l[i]? = some r ∧ y = V.ref (A.ks.getD r.kind 0) := by
 unfold Ir at h;rw [Ap, Ap] at h
 cases hr : l[i]? with
 | none => rw [hr] at h; cases h
 | some r => rw [hr] at h; exact ⟨r, rfl, (Ah h).symm⟩
theorem J1 {A : AD} {l : List Bk} : ((Ir A l).map V.ref).length = l.length := by unfold Ir; rw [Ac, Ac]
theorem Uz {A : AD} {H : Hp} {s : Al} {σ : L2.St} {vs : List Nat} {a D : Addr} {g : TG} {tt : TT} {te : TE} {Qd : Hp → Prop} {l : List Bk} (T : Tab c A H s) (hr : ∀ r ∈ l, Vf s r.kind = some r) (hl : l.length ≤ 1000) (ha : H a = some (.lst ((Ir A l).map V.ref))) (nD : H D = none) (f : Bk → Option V)
  (hs : ∀ r x u dk H' acc (N : Hp → Prop), r ∈ l → H' (A.ks.getD r.kind 0) = some (.ins c.K dk (kK.zip (kv r.kind x))) → x.up = some u → r.seq = u.seq → r.rank = u.rank → r.acked = u.acked → s.kinds[r.kind]? = some x → New H H' → H' D = some (.lst acc) → acc.length < sizeLine → (∀ y, f r = some y → N (upd H' D (.lst (acc ++ [y])))) → (f r = none → N H') →
   g (.ref (A.ks.getD r.kind 0)) (F9 σ vs) H' fun σ2 H2 => F9 σ2 vs = F9 σ vs ∧ tt σ2 H2 fun b H3 => if b = true then te σ2 H3 fun y H4 => ∃ acc, H4 D = some (.lst acc) ∧ acc.length < sizeLine ∧ N (upd H4 D (.lst (acc ++ [y]))) else N H3)
  (hd : Qd (upd H D (.lst (l.filterMap f)))) :
  ∃ W : Nat → Nat → Hp → Prop, (∃ m, W 0 m (upd H D (.lst []))) ∧ ∀ i m H, W i m H →
   ((Itl K a).stop i H ∧ Qd H) ∨ ((Itl K a).go i H ∧ ∃ Nx : Hp → Prop, (∀ H', Nx H' → ∃ m', m' < m ∧ W (i + 1) m' H') ∧ ∀ x H', (Itl K a).yld i H x H' → g x (F9 σ vs) H' fun σ2 H2 => F9 σ2 vs = F9 σ vs ∧ tt σ2 H2 fun b H3 =>
    if b = true then te σ2 H3 fun y H4 => ∃ acc, H4 D = some (.lst acc) ∧ acc.length < sizeLine ∧ Nx (upd H4 D (.lst (acc ++ [y]))) else Nx H3) := by
 refine Q0 (K := K) (xs := (Ir A l).map V.ref) (fun i H' => H' = upd H D (.lst ((l.take i).filterMap f))) rfl (fun i H' _ e => ?_) (fun i y H' hi e => ?_) (fun H' e => ?_)
 ·subst e;exact SqL.of ((New.upd nD) _ _ ha)
 ·subst e;obtain ⟨r, hri, rfl⟩ := Ra hi;have hmem := As hri;obtain ⟨x, u, hp, hx, hu, e1, e2, e3⟩ := T.row (hr r hmem);obtain ⟨dk, hpk, lk⟩ := T.kin _ _ x hp hx;have et : l.take (i + 1) = l.take i ++ [r] := by rw [Ce, hri]; rfl
  refine hs r x u dk _ ((l.take i).filterMap f) _ hmem ((New.upd nD) _ _ hpk) hu e1 e2 e3 hx (New.upd nD) Ao ?_ (fun y hy => ?_) (fun hn => ?_)
  ·have := Rj f (l.take i);rw [Cg] at this;exact C0 (by omega)
  ·rw [Lg, et, Hk, Ci, hy, J5]
  ·rw [et, Hk, Ci, hn, J5, B8]
 ·subst e;rw [J1, Cf];exact hd
theorem Af2 {α β : Type} (p : α → Bool) (g : α → β) : ∀ l : List α, l.filterMap (fun r => if p r = true then some (g r) else none) = (l.filter p).map g
 | [] => rfl
 | a :: l => by
  rw [Ci, Bu, Af2 p g l]
  cases p a <;> rfl
theorem Zw {k : Nat} {x : Bo} : (kv k x).length = kK.length := rfl
abbrev Aft (c : Cs) : Sp := Ny c (fun s x => Np s ∧ s.kinds.length ≤ 32) (fun s k x => Dr (Bd (Au s k { x with up := none }) k 4 (B3 x.up)))
theorem Ou : A8 ["table", "kind"] ["table", "kind"] (Ar s_go_by_itself) := by constructor<;>first|rfl|decide +kernel
theorem Oz (D : De K mg "go_by_itself" s_go_by_itself ["table", "kind"]) (M : Tops mg) (DW : Fn P w K mg base "write_event" 5 ["table", "kind", "what"] (Fg c)) (DL : Fn P w K mg base "lower" 2 ["table", "kind"] (X6 c)) :
  Fn P w K mg base "go_by_itself" 6 ["table", "kind"] (Aft c) := by
 refine D.fn fun f fd F => F.ok Ou (fun vs H Q E h => ?_) (fun cdv A outer s H vs Q E hr h => ?_)
 ·obtain ⟨A, s, k, p, x, rfl, _⟩ := h;rfl
 ·obtain ⟨A, s, k, p, x, rfl, hk, hx, T, ⟨W, W2⟩, q⟩ := h;refine ⟨_, (Ab (Cv (Br DW (hr.mono (by decide)) rfl (Aa (pv 0) (Aa (pv 1) (Aa (C7 M.WENT rfl) Ag)))))
   (Ai (Cv (Br DL (hr.mono (by decide)) rfl (Aa (pv 0) (Aa (pv 1) Ag)))))), ?_⟩
  refine ⟨_, rfl, _, rfl, A, s, k, 4, p, x, rfl, hk, hx, T, W.log, W.low, W.len, fun H1 T1 k1 => ?_⟩;have e1 : Sz 4 (Bd s k 4 (B3 x.up)) (B3 x.up) = Bd s k 4 (B3 x.up) := if_neg (by decide);rw [e1] at T1;refine ⟨_, rfl, _, rfl, A, _, k, p, x, rfl, hk, by rw [Ff]; exact hx, T1, by show (Bd _ _ _ _).kinds.length ≤ 32; rw [Ff]; exact W2, fun H2 T2 k2 => ?_⟩;refine q H2 ?_ (k1.trans k2);show Tab c A H2 (Dr (Bd (Au s k { x with up := none }) k 4 (B3 x.up)));rw [Lo];exact T2
abbrev O9 (c : Cs) : Sp := Ny c (fun s x => Np s ∧ s.kinds.length ≤ 32) (fun s k x => Dr (Bd (Au s k { x with up := none, held := 0 }) k 5 (B3 x.up)))
theorem Rp : A8 ["table", "kind"] ["table", "kind"] (Ar s_reset_kind) := by constructor<;>first|rfl|decide +kernel
theorem Ab9 {s : Al} {k : Nat} {x y z : Bo} (hx : s.kinds[k]? = some x) (e : y.up = z.up) : Au (Dr (Au s k y)) k z = Dr (Au s k z) := by
 have er : D9 (Au s k y) = D9 (Au s k z) := by
  unfold D9 E5;have hl : (Au s k y).kinds.length = (Au s k z).kinds.length := by show (s.kinds.set k y).length = (s.kinds.set k z).length; rw [Dh, Dh]
  rw [hl]
  apply Ri
  intro j _;rw [Kh, Kh]
  by_cases q : j = k
  ·subst q; rw [G5 hx, G5 hx, e]
  ·rw [Jo q, Jo q]
 unfold Dr;rw [er]
 split
 ·show Au (Au { s with first := none } k y) k z = _;rw [Im]; rfl
 ·rw [Im]
theorem R7 (D : De K mg "reset_kind" s_reset_kind ["table", "kind"]) (cK : CK K c.K kK) (M : Tops mg) (DW : Fn P w K mg base "write_event" 5 ["table", "kind", "what"] (Fg c)) (DL : Fn P w K mg base "lower" 2 ["table", "kind"] (X6 c)) :
  Fn P w K mg base "reset_kind" 6 ["table", "kind"] (O9 c) := by
 refine D.fn fun f fd F => F.ok Rp (fun vs H Q E h => ?_) (fun cdv A outer s H vs Q E hr h => ?_)
 ·obtain ⟨A, s, k, p, x, rfl, _⟩ := h;rfl
 ·obtain ⟨A, s, k, p, x, rfl, hk, hx, T, ⟨W, W2⟩, q⟩ := h;refine ⟨_, (Ab (Cv (Br DW (hr.mono (by decide)) rfl (Aa (pv 0) (Aa (pv 1) (Aa (C7 M.RESET rfl) Ag)))))
   (Ab (Cv (Br DL (hr.mono (by decide)) rfl (Aa (pv 0) (Aa (pv 1) Ag))))
   (Ai (Bq (pv 1) Ax rfl)))), ?_⟩
  refine ⟨_, rfl, _, rfl, A, s, k, 5, p, x, rfl, hk, hx, T, W.log, W.low, W.len, fun H1 T1 k1 => ?_⟩;have e1 : Sz 5 (Bd s k 5 (B3 x.up)) (B3 x.up) = Bd s k 5 (B3 x.up) := if_neg (by decide);rw [e1] at T1;have hx1 : (Bd s k 5 (B3 x.up)).kinds[k]? = some x := by rw [Ff]; exact hx
  refine ⟨_, rfl, _, rfl, A, _, k, p, x, rfl, hk, hx1, T1, by show (Bd _ _ _ _).kinds.length ≤ 32; rw [Ff]; exact W2, fun H2 T2 k2 => ?_⟩;have hx2 : (Dr (Au (Bd s k 5 (B3 x.up)) k { x with up := none })).kinds[k]? = some { x with up := none } := by rw [Lp]; exact Gj hx1
  have o2 := T2.kin k p _ hk hx2;refine ⟨_, rfl, ?_⟩;refine o2.put cK 8 rfl fun H3 o3 e3 => ?_;refine q H3 ?_ ((k1.trans k2).trans (Bj.else o2 e3));have T3 := T2.kind (x' := { x with up := none, held := 0 }) hk hx2 e3 o3;show Tab c A H3 (Dr (Bd (Au s k { x with up := none, held := 0 }) k 5 (B3 x.up)));rw [Lo];have e4 := Ab9 (y := { x with up := none }) (z := { x with up := none, held := 0 }) hx1 rfl;rw [← e4];exact T3
def Sl (c : Cs) (g : Al → Nat → Al × Nat) : Sp := fun vs H Q _ => ∃ (A : AD) (s : Al) (k : Nat) (p : Addr), vs = [.ref A.t, .ref p] ∧ A.ks[k]? = some p ∧ Tab c A H s ∧ Np s ∧ s.kinds.length ≤ 32 ∧
 ∀ H', Tab c A H' (g s k).1 → Bj A H H' → Q (.int (g s k).2) H'
theorem Tab.kindAt {A : AD} {H : Hp} {s : Al} (T : Tab c A H s) {k : Nat} {p : Addr} (hk : A.ks[k]? = some p) : ∃ x, s.kinds[k]? = some x := ⟨_, Aq (by rw [← T.klen]; exact (Af.mp hk).1)⟩
theorem Kw : A8 ["table", "kind"] ["table", "kind"] (Ar s_start_condition) := by constructor<;>first|rfl|decide +kernel
theorem K4 (D : De K mg "start_condition" s_start_condition ["table", "kind"]) (cK : CK K c.K kK) (M : Tops mg) (DS : Fn P w K mg base "is_shelved" 1 ["table", "kind"] (Qq c)) (DR : Fn P w K mg base "raise_kind" 6 ["table", "kind"] (Tq c)) (DA : Fn P w K mg base "sound_again" 6 ["table", "kind"] (Ya c)) :
  Fn P w K mg base "start_condition" 7 ["table", "kind"] (Sl c Ez) := by
 refine D.fn fun f fd F => F.ok Kw (fun vs H Q E h => ?_) (fun cdv A outer s H vs Q E hr h => ?_)
 ·obtain ⟨A, s, k, p, rfl, _⟩ := h;rfl
 ·obtain ⟨A, s, k, p, rfl, hk, T, W, W2, q⟩ := h;obtain ⟨x, hx⟩ := T.kindAt hk;refine ⟨_, (Ab (Ca (Ck (An (pv 1) rfl)) (Ai (A1 Ax)) Bg)
   (Ab (Bq (pv 1) K1 rfl)
   (Ab (Ca (D7 (Ck (An (pv 1) rfl))) (Ab (Bq (pv 1) Ax rfl)
   (Ab (Ca (PW.pt (Xd (B6 Pr (An (pv 1) rfl) Ax (Cq _)) (Pl (Ck (Br DS (hr.mono (by decide)) rfl (Aa (pv 0) (Aa (pv 1) Ag))))))) (Ai (A1 Ax)) Bg)
   (Ab (Cv (Br DR (hr.mono (by decide)) rfl (Aa (pv 0) (Aa (pv 1) Ag))))
   (Ai (A1 Ax))))) Bg)
   (Ab (Ca (Ck (An (pv 1) rfl)) (Ab (Cv (Br DA (hr.mono (by decide)) rfl (Aa (pv 0) (Aa (pv 1) Ag))))
   (Ai (A1 Ax))) Bg)
   (Ai (A1 Ax)))))), ?_⟩
  have o := T.kin k p x hk hx;obtain ⟨d0, h0, l0⟩ := id o;refine ⟨_, rfl, _, _, _, _, _, rfl, h0, cK.cls, cK.n 7 rfl, cK.l l0 7 rfl, _, rfl, Cm (fun hc => ?_) (fun hc => ?_)⟩
  ·have e : Ez s k = (s, 0) := by unfold Ez; rw [hx]; simp only; rw [if_pos hc]
   have z := q H (by rw [e]; exact T) Bj.refl;rw [e] at z;exact z
  ·refine ⟨_, rfl, ?_⟩;refine o.put cK 7 rfl fun H1 o1 e1 => ?_;obtain ⟨d1, h1, l1⟩ := id o1;have k1 : Bj A H H1 := Bj.else o e1;refine ⟨_, rfl, _, _, _, _, _, rfl, h1, cK.cls, cK.n 10 rfl, cK.l l1 10 rfl, _, rfl, Cm (fun hup => ?_) (fun hup => ?_)⟩
   ·have hu : x.up = none := by
     cases hu : x.up with
     | none => rfl
     | some u => rw [hu] at hup; cases hup
    refine ⟨_, rfl, ?_⟩;refine o1.put cK 8 rfl fun H2 o2 e2 => ?_;obtain ⟨d2, h2, l2⟩ := id o2;have T2 : Tab c A H2 (Au s k { x with cond := true, held := 0 }) := T.kind hk hx (e1.trans e2) o2;have k2 : Bj A H H2 := Bj.else o (e1.trans e2);have no : (¬ (x.delay = 0 ∧ x.shelf ≤ s.now)) → Q (.int 1) H2 := fun hn => by
     have e : Ez s k = (Au s k { x with cond := true, held := 0, up := none }, 1) := by
      unfold Ez; rw [hx]; simp only; rw [if_neg hc]; simp only [hu]; rw [if_neg hn]
     have e' : ({ x with cond := true, held := 0 } : Bo) = { x with cond := true, held := 0, up := none } := by rw [← hu]
     rw [e'] at T2;have z := q H2 (by rw [e]; exact T2) k2;rw [e] at z;exact z
    refine ⟨_, rfl, _, _, _, _, _, rfl, h2, cK.cls, cK.n 3 rfl, cK.l l2 3 rfl, _, _, rfl, rfl, _, rfl, Cm (fun hd => U2 ?_) (fun hd => ?_)⟩
    ·exact no fun z => by have := of_decide_eq_true hd; omega
    ·have hd : x.delay = 0 := by
      have : ¬ (0 : Int) < (x.delay : Int) := fun z => hd (decide_eq_true z);omega
     refine ⟨_, rfl, _, rfl, A, _, k, p, _, rfl, hk, Gj hx, T2, _, rfl, Cm (fun hsh => ?_) (fun hsh => ?_)⟩
     ·exact no fun z => by have := of_decide_eq_true hsh; have : s.now < x.shelf := this; omega
     ·have hsh : x.shelf ≤ s.now := by
       have : ¬ s.now < x.shelf := fun z => hsh (decide_eq_true z);omega
      refine ⟨_, rfl, _, rfl, A, _, k, p, _, rfl, hk, Gj hx, T2, W.put _ _, fun H3 T3 k3 => ?_⟩;have e : Ez s k = (Ec s k { x with cond := true, held := 0, up := none }, 2) := by
       unfold Ez; rw [hx]; simp only; rw [if_neg hc]; simp only [hu]; rw [if_pos ⟨hd, hsh⟩]
      have e' : ({ x with cond := true, held := 0 } : Bo) = { x with cond := true, held := 0, up := none } := by rw [← hu]
      have e3 : Ec (Au s k { x with cond := true, held := 0 }) k { x with cond := true, held := 0 } = Ec s k { x with cond := true, held := 0, up := none } := by
       rw [e'];unfold Ec;simp only;rw [Im];rfl
      have z := q H3 (by rw [e, ← e3]; exact T3) (k2.trans k3);rw [e] at z;exact z
   ·obtain ⟨u, hu⟩ : ∃ u, x.up = some u := by
     cases hu : x.up with
     | none => rw [hu] at hup; exact absurd rfl hup
     | some u => exact ⟨u, rfl⟩
    have T1 : Tab c A H1 (Au s k { x with cond := true }) := T.kind hk hx e1 o1;refine ⟨_, rfl, _, _, _, _, _, rfl, h1, cK.cls, cK.n 12 rfl, cK.l l1 12 rfl, _, rfl, Cm (fun ha => ?_) (fun ha => ?_)⟩
    ·have ha : u.acked = true := by rw [hu] at ha; exact ha
     refine ⟨_, rfl, _, rfl, A, _, k, p, _, rfl, hk, Gj hx, T1, ⟨W.put _ _, by show x.up.isSome = true; rw [hu]; rfl⟩, fun H3 T3 k3 => ?_⟩;have e : Ez s k = (C3 (Bd (Au s k { x with cond := true, up := some { u with acked := false, wait := 0 } }) k 2 u.rank) u.rank, 2) := by
      unfold Ez; rw [hx]; simp only; rw [if_neg hc]; simp only [hu]; rw [if_pos ha]
     have e3 : Au (Au s k { x with cond := true }) k (Jn { x with cond := true } fun u => { u with acked := false, wait := 0 }) = Au s k { x with cond := true, up := some { u with acked := false, wait := 0 } } := by
      rw [Im]; unfold Jn; simp only [hu]; rfl
     have er : B3 ({ x with cond := true } : Bo).up = u.rank := by show B3 x.up = u.rank; rw [hu]; rfl
     have z := q H3 (by rw [e, ← e3, ← er]; exact T3) (k1.trans k3);rw [e] at z;exact z
    ·have ha : ¬ u.acked = true := by rw [hu] at ha; exact ha
     have e : Ez s k = (Au s k { x with cond := true, up := some u }, 1) := by
      unfold Ez; rw [hx]; simp only; rw [if_neg hc]; simp only [hu]; rw [if_neg ha]
     have e' : ({ x with cond := true } : Bo) = { x with cond := true, up := some u } := by rw [← hu]
     rw [e'] at T1;have z := q H1 (by rw [e]; exact T1) k1;rw [e] at z;exact z
theorem Mw : A8 ["table", "kind"] ["table", "kind"] (Ar s_end_condition) := by constructor<;>first|rfl|decide +kernel
theorem Nd (D : De K mg "end_condition" s_end_condition ["table", "kind"]) (cK : CK K c.K kK) (M : Tops mg) (DG : Fn P w K mg base "go_by_itself" 6 ["table", "kind"] (Aft c)) :
  Fn P w K mg base "end_condition" 7 ["table", "kind"] (Sl c E4) := by
 refine D.fn fun f fd F => F.ok Mw (fun vs H Q E h => ?_) (fun cdv A outer s H vs Q E hr h => ?_)
 ·obtain ⟨A, s, k, p, rfl, _⟩ := h;rfl
 ·obtain ⟨A, s, k, p, rfl, hk, T, W, W2, q⟩ := h;obtain ⟨x, hx⟩ := T.kindAt hk;refine ⟨_, (Ab (Ca (D7 (Ck (An (pv 1) rfl))) (Ai (A1 Ax)) Bg)
   (Ab (Bq (pv 1) K1 rfl)
   (Ab (Ca (D7 (Ck (An (pv 1) rfl))) (Ab (Bq (pv 1) Ax rfl)
   (Ai (A1 Ax))) Bg)
   (Ab (Ca (B6 M8 (An (pv 1) rfl) Ax (Cq _)) (Ai (A1 Ax)) Bg)
   (Ab (Cv (Br DG (hr.mono (by decide)) rfl (Aa (pv 0) (Aa (pv 1) Ag))))
   (Ai (A1 Ax))))))), ?_⟩
  have o := T.kin k p x hk hx;obtain ⟨d0, h0, l0⟩ := id o;refine ⟨_, rfl, _, _, _, _, _, rfl, h0, cK.cls, cK.n 7 rfl, cK.l l0 7 rfl, _, rfl, Cm (fun hc => ?_) (fun hc => ?_)⟩
  ·have hc : x.cond = false := by cases h : x.cond with | false => rfl | true => rw [h] at hc; cases hc
   have e : E4 s k = (s, 0) := by unfold E4; rw [hx]; simp only; rw [if_pos hc]
   have z := q H (by rw [e]; exact T) Bj.refl;rw [e] at z;exact z
  ·have hc : ¬ x.cond = false := fun h => hc (by rw [h]; rfl);refine ⟨_, rfl, ?_⟩;refine o.put cK 7 rfl fun H1 o1 e1 => ?_;obtain ⟨d1, h1, l1⟩ := id o1;have k1 : Bj A H H1 := Bj.else o e1;refine ⟨_, rfl, _, _, _, _, _, rfl, h1, cK.cls, cK.n 10 rfl, cK.l l1 10 rfl, _, rfl, Cm (fun hup => ?_) (fun hup => ?_)⟩
   ·have hu : x.up = none := by
     cases hu : x.up with
     | none => rfl
     | some u => rw [hu] at hup; cases hup
    refine ⟨_, rfl, ?_⟩;refine o1.put cK 8 rfl fun H2 o2 e2 => ?_;have T2 : Tab c A H2 (Au s k { x with cond := false, held := 0 }) := T.kind hk hx (e1.trans e2) o2;have k2 : Bj A H H2 := Bj.else o (e1.trans e2);have e : E4 s k = (Au s k { x with cond := false, held := 0, up := none }, 1) := by
     unfold E4; rw [hx]; simp only; rw [if_neg hc]; simp only [hu]
    have e' : ({ x with cond := false, held := 0 } : Bo) = { x with cond := false, held := 0, up := none } := by rw [← hu]
    rw [e'] at T2;have z := q H2 (by rw [e]; exact T2) k2;rw [e] at z;exact z
   ·obtain ⟨u, hu⟩ : ∃ u, x.up = some u := by
     cases hu : x.up with
     | none => rw [hu] at hup; exact absurd rfl hup
     | some u => exact ⟨u, rfl⟩
    have T1 : Tab c A H1 (Au s k { x with cond := false }) := T.kind hk hx e1 o1;refine ⟨_, rfl, _, _, _, _, _, rfl, h1, cK.cls, cK.n 2 rfl, cK.l l1 2 rfl, rfl, _, rfl, Cm (fun hl => ?_) (fun hl => ?_)⟩
    ·have hl : x.latching = true := by
      have := V.int.inj (of_decide_eq_true hl)
      cases h : x.latching with
      | true => rfl
      | false => rw [h] at this; simp at this
     have e : E4 s k = (Au s k { x with cond := false, up := some u }, 1) := by
      unfold E4; rw [hx]; simp only; rw [if_neg hc]; simp only [hu]; rw [if_pos hl]
     have e' : ({ x with cond := false } : Bo) = { x with cond := false, up := some u } := by rw [← hu]
     rw [e'] at T1;have z := q H1 (by rw [e]; exact T1) k1;rw [e] at z;exact z
    ·have hl : ¬ x.latching = true := fun h => hl (by rw [h]; rfl);refine ⟨_, rfl, _, rfl, A, _, k, p, _, rfl, hk, Gj hx, T1, ⟨W.put _ _, by show (s.kinds.set _ _).length ≤ 32; rw [Dh]; exact W2⟩, fun H3 T3 k3 => ?_⟩;have e : E4 s k = (Dr (Bd (Au s k { x with cond := false, up := none }) k 4 u.rank), 2) := by
      unfold E4; rw [hx]; simp only; rw [if_neg hc]; simp only [hu]; rw [if_neg hl]
     have T3 : Tab c A H3 (Dr (Bd (Au (Au s k { x with cond := false }) k { x with cond := false, up := none }) k 4 (B3 x.up))) := T3;rw [Im, hu] at T3;have z := q H3 (by rw [e]; exact T3) (k1.trans k3);rw [e] at z;exact z
def X7 (c : Cs) : Sp := fun vs H Q _ => ∃ (p : Addr) (i : Nat) (x : Bo) (u : O1), vs = [.ref p] ∧ Ob c.K kK H p (kv i x) ∧ x.up = some u ∧ Q (.int (Fd x u)) H
theorem Mr : A8 ["kind"] ["kind"] (Ar s_waiting_limit) := by constructor<;>first|rfl|decide +kernel
theorem M9 (D : De K mg "waiting_limit" s_waiting_limit ["kind"]) (cK : CK K c.K kK) (M : Tops mg) : Fn P w K mg base "waiting_limit" 1 ["kind"] (X7 c) := by
 refine D.fn fun f fd F => F.ok Mr (fun vs H Q E h => ?_) (fun cdv A outer s H vs Q E hr h => ?_)
 ·obtain ⟨p, i, x, u, rfl, _⟩ := h;rfl
 ·obtain ⟨p, i, x, u, rfl, ⟨d0, h0, l0⟩, hu, q⟩ := h;refine ⟨_, (Ab (Ca (Ck (An (pv 0) rfl)) (Ai (A1 (Pq (Ck (An (pv 0) rfl)) (An (pv 0) rfl) Ax))) Bg)
   (Ai (A1 (Pq (B6 Kb (An (pv 0) rfl) (C7 M.GRAVEST rfl) (Cq _)) (An (pv 0) rfl) Ax)))), ?_⟩
  have ea : Iy x.up = u.acked := by rw [hu]; rfl
  have er : B3 x.up = u.rank := by rw [hu]; rfl
  refine ⟨_, rfl, _, _, _, _, _, rfl, h0, cK.cls, cK.n 12 rfl, cK.l l0 12 rfl, _, rfl, Cm (fun ha => ?_) (fun ha => ?_)⟩
  ·rw [ea] at ha;refine ⟨_, rfl, _, _, _, _, _, rfl, h0, cK.cls, cK.n 7 rfl, cK.l l0 7 rfl, _, rfl, Cm (fun hc => ?_) (fun hc => ?_)⟩
   ·have e : Fd x u = x.again := by unfold Fd; rw [if_pos ha, if_pos hc]
    rw [e] at q;exact ⟨_, rfl, _, _, _, _, _, rfl, h0, cK.cls, cK.n 5 rfl, cK.l l0 5 rfl, q⟩
   ·have e : Fd x u = 0 := by unfold Fd; rw [if_pos ha, if_neg hc]
    rw [e] at q;exact q
  ·rw [ea] at ha;refine ⟨_, rfl, _, _, _, _, _, rfl, h0, cK.cls, cK.n 11 rfl, cK.l l0 11 rfl, _, _, rfl, rfl, _, rfl, Cm (fun hc => ?_) (fun hc => ?_)⟩
   ·have hc : u.rank < 3 := by have := of_decide_eq_true hc; rw [er] at this; omega
    have e : Fd x u = x.escalate := by unfold Fd; rw [if_neg ha, if_pos hc]
    rw [e] at q;exact ⟨_, rfl, _, _, _, _, _, rfl, h0, cK.cls, cK.n 4 rfl, cK.l l0 4 rfl, q⟩
   ·have hc : ¬ u.rank < 3 := fun z => hc (decide_eq_true (by rw [er]; omega));have e : Fd x u = 0 := by unfold Fd; rw [if_neg ha, if_neg hc]
    rw [e] at q;exact q
def X4 (c : Cs) : Sp := fun vs H Q _ => ∃ (p : Addr) (i n : Nat) (x : Bo), vs = [.ref p, .int n] ∧ Ob c.K kK H p (kv i x) ∧ Q (.int ((max n x.shelf : Nat) : Int)) H
theorem Lm : A8 ["kind", "clock"] ["kind", "clock"] (Ar s_counting_start) := by constructor<;>first|rfl|decide +kernel
theorem Ahn (a b : Nat) : (if (b : Int) > (a : Int) then (b : Int) else (a : Int)) = ((max a b : Nat) : Int) := by
 split <;> omega
theorem Ls (D : De K mg "counting_start" s_counting_start ["kind", "clock"]) (cK : CK K c.K kK) (M : Tops mg) : Fn P w K mg base "counting_start" 1 ["kind", "clock"] (X4 c) := by
 refine D.fn fun f fd F => F.ok Lm (fun vs H Q E h => ?_) (fun cdv A outer s H vs Q E hr h => ?_)
 ·obtain ⟨p, i, n, x, rfl, _⟩ := h;rfl
 ·obtain ⟨p, i, n, x, rfl, ⟨d0, h0, l0⟩, q⟩ := h;refine ⟨_, (Ai (A1 (C1 (Jc rfl) (by rfl) M.no_max boot_max (Aa (pv 1) (Aa (An (pv 0) rfl) Ag))))), ?_⟩;refine ⟨_, rfl, _, rfl, _, _, _, _, _, rfl, h0, cK.cls, cK.n 9 rfl, cK.l l0 9 rfl, _, _, rfl, ?_⟩;rw [Ahn];exact q
def Ju (n : Nat) (x : Bo) : Nat := (due n x).getD 1000000
def Agq (c : Cs) : Sp := fun vs H Q _ => ∃ (p : Addr) (i n : Nat) (x : Bo), vs = [.ref p, .int n] ∧ Ob c.K kK H p (kv i x) ∧ Q (.int (Ju n x)) H
theorem F1 : A8 ["kind", "clock", "limit", "missing"] ["kind", "clock"] (Ar s_seconds_to_deed) := by constructor<;>first|rfl|decide +kernel
theorem K5 (D : De K mg "seconds_to_deed" s_seconds_to_deed ["kind", "clock"]) (cK : CK K c.K kK) (M : Tops mg) (DL : Fn P w K mg base "waiting_limit" 1 ["kind"] (X7 c)) (DS : Fn P w K mg base "counting_start" 1 ["kind", "clock"] (X4 c)) :
  Fn P w K mg base "seconds_to_deed" 2 ["kind", "clock"] (Agq c) := by
 refine D.fn fun f fd F => F.ok F1 (fun vs H Q E h => ?_) (fun cdv A outer s H vs Q E hr h => ?_)
 ·obtain ⟨p, i, n, x, rfl, _⟩ := h;rfl
 ·obtain ⟨p, i, n, x, rfl, o, q⟩ := h;obtain ⟨d0, h0, l0⟩ := id o;refine ⟨_, (Ab (Ca (Ck (An (pv 0) rfl)) (Ab (Bf (i := 2) F1.nd rfl (A7 rfl) (Br DL (hr.mono (by decide)) rfl (Aa (pv 0) Ag)))
   (Ai (A1 (Pq (B6 Pr (pv 2) Ax (Cq _)) (C1 (Jc rfl) (by rfl) M.no_max boot_max (Aa Ax (Aa (Et K2 (pv 2) (An (pv 0) rfl)) Ag))) (C7 M.NEVER rfl))))) Bg)
   (Ab (Ca (D7 (Ck (An (pv 0) rfl))) (Ai (A1 (C7 M.NEVER rfl))) Bg)
   (Ab (Bf (i := 3) F1.nd rfl (A7 rfl) (C1 (Jc rfl) (by rfl) M.no_max boot_max (Aa Ax (Aa (Et K2 (An (pv 0) rfl) (An (pv 0) rfl)) Ag))))
   (Ai (A1 (C1 (Jc rfl) (by rfl) M.no_max boot_max (Aa Ax (Aa (Et K2 (Et J9 (Br DS (hr.mono (by decide)) rfl (Aa (pv 0) (Aa (pv 1) Ag))) (pv 3)) (pv 1)) Ag)))))))), ?_⟩
  unfold Ju at q;refine ⟨_, rfl, _, _, _, _, _, rfl, h0, cK.cls, cK.n 10 rfl, cK.l l0 10 rfl, _, rfl, Cm (fun hup => ?_) (fun hup => ?_)⟩
  ·obtain ⟨u, hu⟩ := Cz.mp hup;refine ⟨_, rfl, p, i, x, u, rfl, o, hu, ?_⟩;refine ⟨_, rfl, _, _, rfl, rfl, _, rfl, Cm (fun hl => ?_) (fun hl => ?_)⟩
   ·have hl : 0 < Fd x u := by have := of_decide_eq_true hl; omega
    refine ⟨_, rfl, _, rfl, _, _, _, _, _, rfl, h0, cK.cls, cK.n 13 rfl, cK.l l0 13 rfl, _, _, rfl, rfl, _, _, rfl, ?_⟩;have e : due n x = some (max 1 (Fd x u - u.wait)) := by unfold due; rw [hu]; simp [hl]
    rw [e] at q;have ew : Mb x.up = u.wait := by rw [hu]; rfl
    have e2 : (if ((Fd x u : Int) - ((Mb x.up : Nat) : Int)) > 1 then ((Fd x u : Int) - ((Mb x.up : Nat) : Int)) else 1) = (((some (max 1 (Fd x u - u.wait))).getD 1000000 : Nat) : Int) := by
     rw [ew];show _ = ((max 1 (Fd x u - u.wait) : Nat) : Int)
     split <;> omega
    rw [e2];exact q
   ·have hl : ¬ 0 < Fd x u := fun z => hl (decide_eq_true (by omega));have e : due n x = none := by unfold due; rw [hu]; simp [hl]
    rw [e] at q;exact q
  ·have hu : x.up = none := by
    cases hu : x.up with
    | none => rfl
    | some u => rw [hu] at hup; exact absurd rfl hup
   refine ⟨_, rfl, _, _, _, _, _, rfl, h0, cK.cls, cK.n 7 rfl, cK.l l0 7 rfl, _, rfl, Cm (fun hc => ?_) (fun hc => ?_)⟩
   ·have hc : ¬ x.cond = true := by cases h : x.cond with | false => simp | true => rw [h] at hc; cases hc
    have e : due n x = none := by unfold due; rw [hu]; simp [hc]
    rw [e] at q;exact q
   ·have hc : x.cond = true := by cases h : x.cond with | true => rfl | false => rw [h] at hc; exact absurd rfl hc
    have e : due n x = some (max 1 (max n x.shelf + (x.delay - x.held) - n)) := by unfold due; rw [hu]; simp [hc]
    rw [e] at q;refine ⟨_, rfl, _, _, _, _, _, rfl, h0, cK.cls, cK.n 3 rfl, cK.l l0 3 rfl, _, rfl, _, _, _, _, _, rfl, h0, cK.cls, cK.n 8 rfl, cK.l l0 8 rfl, _, _, rfl, rfl, _, _, rfl, ?_⟩;refine ⟨_, rfl, _, rfl, p, i, n, x, rfl, o, _, rfl, _, _, rfl, rfl, _, rfl, _, _, rfl, rfl, _, _, rfl, ?_⟩;have e2 : (if ((max n x.shelf : Nat) : Int) + (if (x.delay : Int) - (x.held : Int) > 0 then (x.delay : Int) - (x.held : Int) else 0) - (n : Int) > 1 then ((max n x.shelf : Nat) : Int) + (if (x.delay : Int) - (x.held : Int) > 0 then (x.delay : Int) - (x.held : Int) else 0) - (n : Int) else 1) = (((some (max 1 (max n x.shelf + (x.delay - x.held) - n))).getD 1000000 : Nat) : Int) := by
     show _ = ((max 1 (max n x.shelf + (x.delay - x.held) - n) : Nat) : Int)
     split <;> split <;> omega
    rw [e2];exact q
def Acl (c : Cs) : Sp := fun vs H Q _ => ∃ (p : Addr) (i n d : Nat) (x : Bo), vs = [.ref p, .int n, .int d] ∧ Ob c.K kK H p (kv i x) ∧ ∀ H', Ob c.K kK H' p (kv i (count n d x)) → F6 p H H' → Q .non H'
theorem My : A8 ["kind", "clock", "step"] ["kind", "clock", "step"] (Ar s_count_seconds) := by constructor<;>first|rfl|decide +kernel
theorem Nf (D : De K mg "count_seconds" s_count_seconds ["kind", "clock", "step"]) (cK : CK K c.K kK) (M : Tops mg) (DL : Fn P w K mg base "waiting_limit" 1 ["kind"] (X7 c)) (DS : Fn P w K mg base "counting_start" 1 ["kind", "clock"] (X4 c)) :
  Fn P w K mg base "count_seconds" 2 ["kind", "clock", "step"] (Acl c) := by
 refine D.fn fun f fd F => F.ok My (fun vs H Q E h => ?_) (fun cdv A outer s H vs Q E hr h => ?_)
 ·obtain ⟨p, i, n, d, x, rfl, _⟩ := h;rfl
 ·obtain ⟨p, i, n, d, x, rfl, o, q⟩ := h;obtain ⟨d0, h0, l0⟩ := id o;refine ⟨_, (Ai (Ca (Ck (An (pv 0) rfl)) (Ai (Ca (B6 Pr (Br DL (hr.mono (by decide)) rfl (Aa (pv 0) Ag)) Ax (Cq _)) (Ai (M5 (pv 0) (pv 2) Zx)) Bg)) (Ai (Ca (Ck (An (pv 0) rfl)) (Ai (M5 (pv 0) (C1 (Jc rfl) (by rfl) M.no_max boot_max (Aa Ax (Aa (Et K2 (Et J9 (pv 1) (pv 2)) (Br DS (hr.mono (by decide)) rfl (Aa (pv 0) (Aa (pv 1) Ag)))) Ag))) Zx)) Bg)))), ?_⟩;refine ⟨_, rfl, _, _, _, _, _, rfl, h0, cK.cls, cK.n 10 rfl, cK.l l0 10 rfl, _, rfl, Cm (fun hup => ?_) (fun hup => ?_)⟩
  ·obtain ⟨u, hu⟩ := Cz.mp hup;refine ⟨_, rfl, p, i, x, u, rfl, o, hu, _, _, rfl, rfl, _, rfl, Cm (fun hl => ?_) (fun hl => ?_)⟩
   ·have hl : 0 < Fd x u := by have := of_decide_eq_true hl; omega
    refine ⟨_, rfl, _, _, _, _, _, rfl, h0, cK.cls, cK.n 13 rfl, cK.l l0 13 rfl, _, rfl, _, _, rfl, rfl, ?_⟩;refine o.augPut cK 13 rfl fun H1 o1 e1 => ?_;refine q H1 ?_ e1;have e : kv i (count n d x) = (kv i x).set 13 (V.int (((Mb x.up : Nat) : Int) + (d : Int))) := by
     rw [U8 hu hl];unfold kv;rw [hu];rfl
    rw [e];exact o1
   ·have hl : ¬ 0 < Fd x u := fun z => hl (decide_eq_true (by omega));refine q H ?_ fun _ _ => rfl;rw [Jz hu hl];exact o
  ·have hu : x.up = none := by
    cases hu : x.up with
    | none => rfl
    | some u => rw [hu] at hup; exact absurd rfl hup
   refine ⟨_, rfl, _, _, _, _, _, rfl, h0, cK.cls, cK.n 7 rfl, cK.l l0 7 rfl, _, rfl, Cm (fun hc => ?_) (fun hc => ?_)⟩
   ·refine ⟨_, rfl, _, _, _, _, _, rfl, h0, cK.cls, cK.n 8 rfl, cK.l l0 8 rfl, _, rfl, _, rfl, _, _, rfl, rfl, _, rfl, _, rfl, p, i, n, x, rfl, o, _, _, rfl, rfl, _, _, rfl, _, _, rfl, rfl, ?_⟩;refine o.augPut cK 8 rfl fun H1 o1 e1 => ?_;refine q H1 ?_ e1;have e : kv i (count n d x) = (kv i x).set 8 (V.int ((x.held : Int) + (if (n : Int) + (d : Int) - ((max n x.shelf : Nat) : Int) > 0 then (n : Int) + (d : Int) - ((max n x.shelf : Nat) : Int) else 0))) := by
     rw [Jj hu hc];have e2 : (x.held : Int) + (if (n : Int) + (d : Int) - ((max n x.shelf : Nat) : Int) > 0 then (n : Int) + (d : Int) - ((max n x.shelf : Nat) : Int) else 0) = ((x.held + (n + d - max n x.shelf) : Nat) : Int) := by
      split <;> omega
     rw [e2];rfl
    rw [e];exact o1
   ·refine q H ?_ fun _ _ => rfl;rw [Nk hu hc];exact o
abbrev Afy (c : Cs) : Sp := Ny c (fun s _ => Np s) deed
theorem Yx : A8 ["table", "kind"] ["table", "kind"] (Ar s_do_deed) := by constructor<;>first|rfl|decide +kernel
theorem Zi (D : De K mg "do_deed" s_do_deed ["table", "kind"]) (cK : CK K c.K kK) (DR : Fn P w K mg base "raise_kind" 6 ["table", "kind"] (Tq c)) (DA : Fn P w K mg base "sound_again" 6 ["table", "kind"] (Ya c)) (DG : Fn P w K mg base "grow_rank" 6 ["table", "kind"] (Afw c)) :
  Fn P w K mg base "do_deed" 7 ["table", "kind"] (Afy c) := by
 refine D.fn fun f fd F => F.ok Yx (fun vs H Q E h => ?_) (fun cdv A outer s H vs Q E hr h => ?_)
 ·obtain ⟨A, s, k, p, x, rfl, _⟩ := h;rfl
 ·obtain ⟨A, s, k, p, x, rfl, hk, hx, T, W, q⟩ := h;obtain ⟨d0, h0, l0⟩ := T.kin k p x hk hx;refine ⟨_, (Ai (Ca (D7 (Ck (An (pv 1) rfl))) (Ai (Cv (Br DR (hr.mono (by decide)) rfl (Aa (pv 0) (Aa (pv 1) Ag))))) (Ai (Ca (Ck (An (pv 1) rfl)) (Ai (Cv (Br DA (hr.mono (by decide)) rfl (Aa (pv 0) (Aa (pv 1) Ag))))) (Ai (Cv (Br DG (hr.mono (by decide)) rfl (Aa (pv 0) (Aa (pv 1) Ag))))))))), ?_⟩;refine ⟨_, rfl, _, _, _, _, _, rfl, h0, cK.cls, cK.n 10 rfl, cK.l l0 10 rfl, _, rfl, Cm (fun hup => ?_) (fun hup => ?_)⟩
  ·have hu : x.up = none := by
    cases hu : x.up with
    | none => rfl
    | some u => rw [hu] at hup; cases hup
   have e : deed s k x = Ec s k x := by unfold deed; rw [hu]
   rw [e] at q;exact ⟨_, rfl, _, rfl, A, s, k, p, x, rfl, hk, hx, T, W, q⟩
  ·obtain ⟨u, hu⟩ : ∃ u, x.up = some u := by
    cases hu : x.up with
    | none => rw [hu] at hup; exact absurd rfl hup
    | some u => exact ⟨u, rfl⟩
   have er : B3 x.up = u.rank := by rw [hu]; rfl
   have hs : x.up.isSome = true := by rw [hu]; rfl
   refine ⟨_, rfl, _, _, _, _, _, rfl, h0, cK.cls, cK.n 12 rfl, cK.l l0 12 rfl, _, rfl, Cm (fun ha => ?_) (fun ha => ?_)⟩
   ·have ha : u.acked = true := by rw [hu] at ha; exact ha
    have e : deed s k x = C3 (Bd (Au s k (Jn x fun u => { u with acked := false, wait := 0 })) k 2 (B3 x.up)) (B3 x.up) := by
     unfold deed Jn; rw [hu]; simp only; rw [if_pos ha]; rfl
    rw [e] at q;exact ⟨_, rfl, _, rfl, A, s, k, p, x, rfl, hk, hx, T, ⟨W, hs⟩, q⟩
   ·have ha : ¬ u.acked = true := by rw [hu] at ha; exact ha
    have e : deed s k x = C3 (Bd (Au s k (Jn x fun u => { u with rank := u.rank + 1, wait := 0 })) k 1 (B3 x.up + 1)) (B3 x.up + 1) := by
     unfold deed Jn; rw [hu]; simp only; rw [if_neg ha]; rfl
    rw [e] at q;exact ⟨_, rfl, _, rfl, A, s, k, p, x, rfl, hk, hx, T, ⟨W, hs⟩, q⟩
end
theorem Ad6 {K : Ad} {A : AD} {g : TG} {tb : TS} {D : Aac} {σ : L2.St} {H : Hp} (Pv : Nat → L2.St → Hp → Prop) (h0 : Pv 0 σ H) (hl : ∀ i σ H, Pv i σ H → H A.kl = some (.lst (A.ks.map V.ref)))
  (hs : ∀ i p σ H, A.ks[i]? = some p → Pv i σ H → g (.ref p) σ H fun σ2 H2 => tb { D with nx := Pv (i + 1), ct := Pv (i + 1), bk := D.nx } σ2 H2) (hd : ∀ σ H, Pv A.ks.length σ H → D.nx σ H) :
  ∃ W : Nat → Nat → L2.St → Hp → Prop, (∃ m, W 0 m σ H) ∧ ∀ i m σ H, W i m σ H →
   ((Itl K A.kl).stop i H ∧ D.nx σ H) ∨ ((Itl K A.kl).go i H ∧ ∃ N : L2.St → Hp → Prop, (∀ σ' H', N σ' H' → ∃ m', m' < m ∧ W (i + 1) m' σ' H') ∧ ∀ x H', (Itl K A.kl).yld i H x H' → g x σ H' fun σ2 H2 => tb { D with nx := N, ct := N, bk := D.nx } σ2 H2) := by
 refine Jw (K := K) (xs := A.ks.map V.ref) Pv h0 (fun i σ H _ p => SqL.of (hl i σ H p)) (fun i x σ H hi p => ?_) (fun σ H p => hd σ H (by rw [Ac] at p; exact p));rw [Ap] at hi
 cases e : A.ks[i]? with
 | none => rw [e] at hi; cases hi
 | some a =>
  rw [e] at hi;have ey : x = V.ref a := (Ah hi).symm;subst ey;exact hs i a σ H e p
theorem Ahv {K : Ad} {a b : Addr} {xs ys : List V} {g : TG} {tb : TS} {D : Aac} {σ : L2.St} {H : Hp} (hxy : xs.length = ys.length) (Pv : Nat → L2.St → Hp → Prop) (h0 : Pv 0 σ H) (hl : ∀ i σ H, Pv i σ H → SqL K H a xs ∧ SqL K H b ys)
  (hs : ∀ i x y T σ H, xs[i]? = some x → ys[i]? = some y → H T = none → Pv i σ H → g (.ref T) σ (upd H T (.tup [x, y])) fun σ2 H2 => tb { D with nx := Pv (i + 1), ct := Pv (i + 1), bk := D.nx } σ2 H2) (hd : ∀ σ H, Pv xs.length σ H → D.nx σ H) :
  ∃ W : Nat → Nat → L2.St → Hp → Prop, (∃ m, W 0 m σ H) ∧ ∀ i m σ H, W i m σ H →
   ((Itz K a b).stop i H ∧ D.nx σ H) ∨ ((Itz K a b).go i H ∧ ∃ N : L2.St → Hp → Prop, (∀ σ' H', N σ' H' → ∃ m', m' < m ∧ W (i + 1) m' σ' H') ∧ ∀ x H', (Itz K a b).yld i H x H' → g x σ H' fun σ2 H2 => tb { D with nx := N, ct := N, bk := D.nx } σ2 H2) := by
 refine ⟨fun i m σ H => m = xs.length - i ∧ i ≤ xs.length ∧ Pv i σ H, ⟨xs.length, by simp, B7 _, h0⟩, ?_⟩;rintro i m σ H ⟨rfl, hi, p⟩;obtain ⟨q1, q2⟩ := hl i σ H p
 by_cases hlt : i < xs.length
 ·refine .inr ⟨⟨xs, ys, xs[i], ys[i]'(by omega), q1, q2, by simp [hlt], by simp⟩, Pv (i + 1), fun σ' H' p' => ⟨xs.length - (i + 1), by omega, rfl, hlt, p'⟩, fun x H' y => ?_⟩;obtain ⟨T, u, v, e, hT, e2, y1, y2⟩ := y;subst e;subst e2;exact hs i u v T σ _ (y1 xs q1) (y2 ys q2) hT p
 ·have e : i = xs.length := by omega
  subst e;exact .inl ⟨⟨xs, ys, q1, q2, .inl (Ak _)⟩, hd σ H p⟩
theorem Ow {α β : Type} (g : α → β) : ∀ (l : List α), (Be l.length).filterMap (fun k => (l[k]?).map g) = l.map g := by
 intro l;have : ∀ n, n ≤ l.length → (Be n).filterMap (fun k => (l[k]?).map g) = (l.take n).map g := by
  intro n
  induction n with
  | zero => intro _; rfl
  | succ n ih =>
   intro h;rw [Fc, Hk, ih (by omega), Ci, J5, Aq (by omega), Ce, Bb, Aq (by omega)];rfl
 rw [this _ (Ak _), Cf]
section
variable {c : Cs} {A : AD} {H H' : Hp} {s : Al}
theorem Tab.own_there (T : Tab c A H s) {a : Addr} (h : a ∈ A.own) : ∃ o, H a = some o := by
 obtain ⟨es, e1, _⟩ := T.el;obtain ⟨bs, _, b1, _⟩ := T.bd;unfold AD.own at h
 rcases Az.mp h with e | h
 ·rw [e]; exact ⟨_, T.kl⟩
 rcases Az.mp h with e | h
 ·rw [e]; exact ⟨_, e1⟩
 rcases Az.mp h with e | h
 ·rw [e]; exact ⟨_, T.dr⟩
 rcases Az.mp h with e | h
 ·rw [e]; exact ⟨_, b1⟩
 obtain ⟨d, hd, rfl⟩ := Ay.mp h;exact ⟨_, T.din d hd⟩
theorem Tab.apart (T : Tab c A H s) {a : Addr} (h : H a = none) : a ∉ A.own := fun z => by
 obtain ⟨o, e⟩ := T.own_there z;rw [e] at h
 cases h
theorem Tab.fresh (T : Tab c A H s) : Ac8 s := fun u l h => by
 obtain ⟨st, hd, _, si⟩ := T.tab;rw [si] at h;unfold Hw at h
 split at h
 ·cases h; assumption
 ·cases h
theorem We {t : Al} {st hd n : Nat} {ks : List Bo} (h : t.silence = Hw t.now st hd) (hn : t.now ≤ n) : Adg { t with now := n, kinds := ks } = { t with now := n, kinds := ks, silence := Hw n st hd } := by
 obtain ⟨ks', ln, nw, sq, si, fi, lg, ba⟩ := t;simp only at h hn;subst h;unfold Adg Hw
 by_cases h1 : nw < st
 ·simp only [if_pos h1]
  by_cases h2 : n < st
  ·rw [if_pos h2, if_neg (by omega)]
  ·rw [if_neg h2, if_pos (by omega)]
 ·simp only [if_neg h1];rw [if_neg (by omega)]
end
section
variable {P : Program} {w : World} {K : Ad} {mg : Str → Option Value} {base : Heap} {C : Addr} {c : Cs}
def Afu (c : Cs) : Sp := fun vs H Q _ => ∃ (A : AD) (s : Al) (n : Nat), vs = [.ref A.t, .int n] ∧ Tab c A H s ∧ Well s ∧ n ≤ 3600 ∧ ∀ H', Tab c A H' (Kk n s) → Bj A H H' → Q .non H'
theorem Dk : A8 ["table", "n", "left", "gaps", "step", "kind", "gap"] ["table", "n"] (Ar s_pass_seconds) := by constructor<;>first|rfl|decide +kernel
theorem Af0 (n : Nat) (x : Bo) : 1 ≤ Ju n x := by
 unfold Ju due
 split
 ·split
  ·show 1 ≤ max 1 _; omega
  ·decide
 ·split
  ·show 1 ≤ max 1 _; omega
  ·decide
theorem Q3 {n k : Nat} {x : Bo} (h : due n x = some k) : Ju n x = k := by unfold Ju; rw [h]; rfl
theorem Ahu {n d : Nat} {x : Bo} (h : d ≤ 3600) : Ju n x = d ↔ due n x = some d := by
 constructor
 ·intro e;unfold Ju at e
  cases hd : due n x with
  | none => rw [hd] at e; have : (1000000 : Nat) = d := e; omega
  | some k => rw [hd] at e; have : k = d := e; rw [this]
 ·exact Q3
theorem Oy (D : De K mg "pass_seconds" s_pass_seconds ["table", "n"]) (cT : CK K c.T tK) (cK : CK K c.K kK) (M : Tops mg) (DG : Fn P w K mg base "seconds_to_deed" 2 ["kind", "clock"] (Agq c)) (DC : Fn P w K mg base "count_seconds" 2 ["kind", "clock", "step"] (Acl c)) (DD : Fn P w K mg base "do_deed" 7 ["table", "kind"] (Afy c)) :
  Fn P w K mg base "pass_seconds" 8 ["table", "n"] (Afu c) := by
 refine D.fn fun f fd F => F.ok Dk (fun vs H Q E h => ?_) (fun cdv A outer s H vs Q E hr h => ?_)
 ·obtain ⟨A, s, n, rfl, _⟩ := h;rfl
 ·obtain ⟨A, s, n, rfl, T, W, hn, q⟩ := h;refine ⟨_, (Ab (Bf (i := 2) Dk.nd rfl (A7 rfl) (pv 1))
   (Ai (M3 PassesOwn.never (B6 Pr (pv 2) Ax (Cq _)) (Ab (M4 (i := 3) (own := [("kind", 5)]) (g := Jv 5) (tt := Afq) (te := Yq (Agq c) [] E0 (Hv (Fj 5) (Hv (K8 K (Fj 0) "clock") Nv))) rfl Dk.nd rfl rfl rfl (Es (An (pv 0) rfl)) (Gb (N := ["table", "n", "left", "gaps", "step", "kind", "gap"]) (sc := Ar s_pass_seconds) (by decide +kernel)) (fun _ _ _ _ _ => Dj (i := 5) Dk.nd rfl (A7 rfl)) (fun _ _ _ _ _ => Qv)
    (fun _ _ _ _ _ => Br DG (hr.mono (by decide)) rfl (Aa (pv 5) (Aa (An (pv 0) rfl) Ag))))
   (Ab (Bf (i := 4) Dk.nd rfl (A7 rfl) (C1 (Ak1 rfl) (by rfl) M.no_min boot_min (Aa (Et Mi (pv 3) (Bl (Aa (pv 2) Ag))) Ag)))
   (Ab (Ht PassesOwn.never rfl (Es (An (pv 0) rfl)) (Dj (i := 5) Dk.nd rfl (A7 rfl)) (Ai (Cv (Br DC (hr.mono (by decide)) rfl (Aa (pv 5) (Aa (An (pv 0) rfl) (Aa (pv 4) Ag)))))))
   (Ab (M5 (pv 0) (pv 4) Zx)
   (Ab (Ht PassesOwn.never rfl (Aiz rfl M.no_zip (Aa (An (pv 0) rfl) (Aa (pv 3) Ag))) (Ag2 rfl (Po (Dj (i := 5) Dk.nd rfl (A7 rfl)) (Po (Dj (i := 6) Dk.nd rfl (A7 rfl)) Acx))) (Ai (Ca (B6 M8 (pv 6) (pv 4) (Cq _)) (Ai (Cv (Br DD (hr.mono (by decide)) rfl (Aa (pv 0) (Aa (pv 5) Ag))))) Bg)))
   (Ai (Aiy (i := 2) Dk.nd rfl (A7 rfl) (pv 4) Ajt)))))))))), ?_⟩
  refine ⟨_, rfl, ?_⟩;refine ⟨fun m σ H' => ∃ v3 v4 v5 v6 s', σ = [some (.ref A.t), some (.int n), some (.int m), v3, v4, v5, v6] ∧ m ≤ 3600 ∧ Tab c A H' s' ∧ Well s' ∧ Kk m s' = Kk n s ∧ Bj A H H', ⟨n, none, none, none, none, s, rfl, hn, T, W, rfl, Bj.refl⟩, ?_⟩;rintro m σ H1 ⟨v3, v4, v5, v6, s1, rfl, hm, T1, W1, hsec, k1⟩;refine ⟨_, rfl, _, _, rfl, rfl, _, rfl, Cm (fun h0 => ?_) (fun h0 => ?_)⟩
  ·have h0 : 0 < m := by have := of_decide_eq_true h0; omega
   refine ⟨fun σ' H' => ∃ m', m' < m ∧ ∃ v3 v4 v5 v6 s', σ' = [some (.ref A.t), some (.int n), some (.int m'), v3, v4, v5, v6] ∧ m' ≤ 3600 ∧ Tab c A H' s' ∧ Well s' ∧ Kk m' s' = Kk n s ∧ Bj A H H', fun _ _ h => h, ?_⟩;obtain ⟨st, hd, ot, si⟩ := T1.tab;obtain ⟨dt, ht, lt⟩ := id ot;refine ⟨_, rfl, _, _, _, _, _, rfl, ht, cT.cls, cT.n 0 rfl, cT.l lt 0 rfl, A.kl, rfl, ⟨_, SqL.of T1.kl⟩, fun gl ngl => ?_⟩;refine Ahp T1 W1.lim ngl (fun k => (s1.kinds[k]?).map fun x => V.int (Ju s1.now x)) (fun j p' x' H' acc N hk' hx' nw hD hz h1 _ => ?_) ?_
   ·refine ⟨rfl, U2 (B := N H') ?_⟩;refine ⟨_, rfl, _, rfl, _, _, _, _, _, rfl, nw _ _ ht, cT.cls, cT.n 2 rfl, cT.l lt 2 rfl, p', j, s1.now, x', rfl, (T1.kin j p' x' hk' hx').new nw, acc, hD, hz, ?_⟩;exact h1 _ (by rw [hx']; rfl)
   ·rw [Ow];have n2 : New H1 (upd H1 gl (.lst (s1.kinds.map fun x => V.int (Ju s1.now x)))) := New.upd ngl;have hgl : upd H1 gl (.lst (s1.kinds.map fun x => V.int (Ju s1.now x))) gl = some (.lst (s1.kinds.map fun x => V.int (Ju s1.now x))) := Ao;generalize upd H1 gl (.lst (s1.kinds.map fun x => V.int (Ju s1.now x))) = H2 at n2 hgl;have gown : gl ∉ A.own := T1.apart ngl;have lim := W1.lim;refine ⟨_, rfl, _, rfl, (by show 1 ≤ sizeLine; decide), fun l nl => ?_⟩;refine ⟨gl, l, _, _, rfl, rfl, (New.upd nl) _ _ hgl, Ao, ?_, fun p np => ?_⟩
    ·rw [Ac];exact En (C0 (by show s1.kinds.length + 1 ≤ 1000; omega))
    have n4 : New H2 (upd (upd H2 l (.lst [.int m])) p (.lst ((s1.kinds.map fun x => V.int (Ju s1.now x)) ++ [.int m]))) := (New.upd nl).trans (New.upd np);have hl4 : upd (upd H2 l (.lst [.int m])) p (.lst ((s1.kinds.map fun x => V.int (Ju s1.now x)) ++ [.int m])) p = some (.lst (((s1.kinds.map fun x => ((Ju s1.now x : Nat) : Int)) ++ [(m : Int)]).map V.int)) := by
     rw [Ao, Bb, D5];rfl
    generalize upd (upd H2 l (.lst [.int m])) p (.lst ((s1.kinds.map fun x => V.int (Ju s1.now x)) ++ [.int m])) = H4 at n4 hl4;refine ⟨p, _, rfl, SqL.of hl4, (by simp), fun m0 hm0 hmin => ?_⟩;obtain ⟨d, rfl⟩ : ∃ d : Nat, m0 = (d : Int) := by
     rcases Ba.mp hm0 with h | h
     ·obtain ⟨x, _, e⟩ := Ay.mp h;exact ⟨_, e.symm⟩
     ·exact ⟨m, A9.mp h⟩
    have hd1 : 1 ≤ d := by
     rcases Ba.mp hm0 with h | h
     ·obtain ⟨x, _, e⟩ := Ay.mp h;have := Af0 s1.now x;omega
     ·have := A9.mp h;omega
    have hdm : d ≤ m := by
     have := hmin (m : Int) (Cb _ (by simp));omega
    have hg : ∀ x ∈ s1.kinds, ∀ k, due s1.now x = some k → d ≤ k := fun x hx k hk => by
     have := hmin ((Ju s1.now x : Nat) : Int) (C4 _ (Ay.mpr ⟨x, hx, rfl⟩));rw [Q3 hk] at this;omega
    have n14 := n2.trans n4;have T4 := T1.same n14;have k4 : Bj A H H4 := k1.trans (Bj.new n14);have hgl4 := n4 _ _ hgl;refine ⟨_, rfl, _, _, _, _, _, rfl, n14 _ _ ht, cT.cls, cT.n 0 rfl, cT.l lt 0 rfl, A.kl, rfl, ⟨_, SqL.of T4.kl⟩, Ad6 (K := K) (fun i σ H' => ∃ v5, σ = [some (.ref A.t), some (.int n), some (.int m), some (.ref gl), some (.int d), v5, v6] ∧ Tab c A H' ((Be i).foldl (cnt s1.kinds s1.now d) s1) ∧ Bj A H4 H')
     ⟨v5, rfl, T4, Bj.refl⟩ (fun i σ H' ⟨_, _, T, _⟩ => T.kl) ?_ ?_⟩
    ·rintro i p σ H' hp ⟨v5, rfl, T5, k5⟩;have hi : i < s1.kinds.length := by rw [← T1.klen]; exact (Af.mp hp).1
     have hx : s1.kinds[i]? = some s1.kinds[i] := Aq hi;have hx5 : ((Be i).foldl (cnt s1.kinds s1.now d) s1).kinds[i]? = some s1.kinds[i] := by
      rw [Ly s1.kinds s1.now d i s1 (by omega) rfl];show ((s1.kinds.take i).map (count s1.now d) ++ s1.kinds.drop i)[i]? = _;have hl : ((s1.kinds.take i).map (count s1.now d)).length = i := by rw [Ac, Cg]; omega
      rw [Dz (by omega), hl, Oq, List.getElem?_drop, Nat.add_zero, hx]
     have hnow : ((Be i).foldl (cnt s1.kinds s1.now d) s1).now = s1.now := by rw [Ly s1.kinds s1.now d i s1 (by omega) rfl]
     obtain ⟨st5, hd5, ⟨dt5, ht5, lt5⟩, si5⟩ := T5.tab;have ok5 := T5.kin i p _ hp hx5;have et : tv A ((Be i).foldl (cnt s1.kinds s1.now d) s1) st5 hd5 = [.ref A.kl, .ref A.ln, .int s1.now, .ref A.pp, .int st5, .int hd5, fv ((Be i).foldl (cnt s1.kinds s1.now d) s1).first] := by unfold tv; rw [hnow]
     rw [et] at ht5 lt5;refine ⟨_, rfl, _, rfl, _, _, _, _, _, rfl, ht5, cT.cls, cT.n 2 rfl, cT.l lt5 2 rfl, _, rfl, p, i, s1.now, d, s1.kinds[i], rfl, ok5, fun H6 o6 e6 => ?_⟩;refine ⟨_, rfl, ?_, k5.trans (Bj.else ok5 e6)⟩;rw [Fc, Eo, Cu, Ko];have ec : cnt s1.kinds s1.now d ((Be i).foldl (cnt s1.kinds s1.now d) s1) i = Au ((Be i).foldl (cnt s1.kinds s1.now d) s1) i (count s1.now d s1.kinds[i]) := by
      unfold cnt;rw [hx]
     rw [ec];exact T5.kind hp hx5 e6 o6
    ·rintro σ H5 ⟨v5', rfl, T5, k5⟩;rw [T1.klen, Ly s1.kinds s1.now d s1.kinds.length s1 (Ak _) rfl, Cf, List.drop_length, B8] at T5;obtain ⟨st5, hd5, ot5, si5⟩ := T5.tab;obtain ⟨dt5, ht5, lt5⟩ := id ot5;refine ⟨_, rfl, _, _, _, _, _, rfl, ht5, cT.cls, cT.n 2 rfl, cT.l lt5 2 rfl, _, rfl, _, _, rfl, rfl, ?_⟩;refine ot5.augPut cT 2 rfl fun H6 o6 e6 => ?_;have ea : adv s1 d = { s1 with now := s1.now + d, kinds := s1.kinds.map (count s1.now d), silence := Hw (s1.now + d) st5 hd5 } := We si5 (Gn _ _);have T6 : Tab c A H6 (adv s1 d) := by
      rw [ea];exact T5.top (st' := st5) (hd' := hd5) e6 o6 rfl rfl rfl rfl rfl rfl
     have k6 : Bj A H4 H6 := k5.trans (Bj.else ot5 e6);have hgl6 : H6 gl = some (.lst (s1.kinds.map fun x => V.int (Ju s1.now x))) := k6 _ _ hgl4 B4 gown;obtain ⟨st6, hd6, ⟨dt6, ht6, lt6⟩, si6⟩ := T6.tab;refine ⟨_, rfl, _, _, _, _, _, rfl, ht6, cT.cls, cT.n 0 rfl, cT.l lt6 0 rfl, _, rfl, A.kl, gl, _, _, rfl, SqL.of T6.kl, SqL.of hgl6, Ahv (K := K) (xs := A.ks.map V.ref) (ys := s1.kinds.map fun x => V.int (Ju s1.now x)) (by rw [Ac, Ac, T1.klen])
      (fun i σ H' => ∃ v5 v6, σ = [some (.ref A.t), some (.int n), some (.int m), some (.ref gl), some (.int d), v5, v6] ∧ Tab c A H' (tf s1.kinds s1.now d (adv s1 d) i) ∧ Bj A H6 H')
      ⟨v5', v6, rfl, T6, Bj.refl⟩ (fun i σ H' ⟨_, _, _, T, k⟩ => ⟨SqL.of T.kl, SqL.of (k _ _ hgl6 B4 gown)⟩) ?_ ?_⟩
     ·rintro i x y T0 σ H' hx hy nT ⟨w5, w6, rfl, T7, k7⟩;rw [Ap] at hx hy
      cases hp : A.ks[i]? with
      | none => rw [hp] at hx; cases hx
      | some p =>
       rw [hp] at hx;have ex : x = V.ref p := (Ah hx).symm;subst ex;have hi : i < s1.kinds.length := by rw [← T1.klen]; exact (Af.mp hp).1
       have hxi : s1.kinds[i]? = some s1.kinds[i] := Aq hi;rw [hxi] at hy;have ey : y = V.int (Ju s1.now s1.kinds[i]) := (Ah hy).symm;subst ey;have n8 : New H' (upd H' T0 (.tup [V.ref p, V.int (Ju s1.now s1.kinds[i])])) := New.upd nT;refine ⟨T0, _, rfl, SqT.of Ao, rfl, _, _, rfl, _, _, rfl, rfl, ?_⟩;generalize upd H' T0 (.tup [V.ref p, V.int (Ju s1.now s1.kinds[i])]) = H8 at n8;have T8 := T7.same n8;have k8 := k7.trans (Bj.new (A := A) n8);refine ⟨_, rfl, _, rfl, rfl, _, rfl, Cm (fun he => ?_) (fun he => ?_)⟩
       ·have he : Ju s1.now s1.kinds[i] = d := by have := V.int.inj (of_decide_eq_true he); omega
        have hdue := (Ahu (by omega)).mp he;have hk8 : (tf s1.kinds s1.now d (adv s1 d) i).kinds[i]? = some (count s1.now d s1.kinds[i]) := by rw [X2 _ _ _ _ _ _ (Ak _), Aa9 hxi]
        refine ⟨_, rfl, _, rfl, A, _, i, p, _, rfl, hp, hk8, T8, (W1.tf d i (by omega)).pap, fun H9 T9 k9 => ?_⟩;refine ⟨_, _, rfl, ?_, k8.trans k9⟩;rw [Qo];unfold turn;rw [hxi];simp only;rw [if_pos hdue];exact T9
       ·have he : ¬ Ju s1.now s1.kinds[i] = d := fun z => he (decide_eq_true (by rw [z]));have hdue : ¬ due s1.now s1.kinds[i] = some d := fun z => he (Q3 z);refine ⟨_, _, rfl, ?_, k8⟩;rw [Qo];unfold turn;rw [hxi];simp only;rw [if_neg hdue];exact T8
     ·rintro σ H9 ⟨w5, w6, rfl, T9, k9⟩;rw [Ac, T1.klen] at T9;refine ⟨_, rfl, _, rfl, _, _, rfl, rfl, ?_⟩;refine ⟨m - d, by omega, some (.ref gl), some (.int d), w5, w6, _, ?_, by omega, T9, W1.tf d _ (Ak _), ?_, (k4.trans k6).trans k9⟩
      ·have : (m : Int) - (d : Int) = ((m - d : Nat) : Int) := by omega
       rw [← this];rfl
      ·rw [Ahq T1.fresh hd1 hdm hg, hsec]
  ·have h0 : m = 0 := by
    have : ¬ (0 : Int) < (m : Int) := fun z => h0 (decide_eq_true z);omega
   subst h0;refine q H1 ?_ k1;rw [← hsec];exact T1
end
def Xw (A : AD) (H : Hp) (A' : AD) (H' : Hp) : Prop := ∀ b o, H b = some o → notIns o → b ∉ A.own → H' b = some o ∧ b ∉ A'.own
theorem Bj.kept {A : AD} {H H' : Hp} (k : Bj A H H') : Xw A H A H' := fun b o h n m => ⟨k b o h n m, m⟩
def Ans (c : Cs) (A : AD) (H : Hp) (s : Al) (call : Co) (Q : VK) : Prop := ∀ (H' : Hp) (A' : AD) (p : Addr), Tab c A' H' (Ae s call).1 → A'.t = A.t → Xw A H A' H' → H' p = some (.lst ((Ae s call).2.map V.int)) → p ∉ A'.own → (∀ b o, H b = some o → notIns o → b ∉ A.own → b ≠ p) → Q (.ref p) H'
def Dt (c : Cs) (mk : List Int → Option Co) : Sp := fun vs H Q _ => ∃ (A : AD) (s : Al) (nl : Addr) (args : List Int) (call : Co), vs = [.ref A.t, .ref nl] ∧ Tab c A H s ∧ Well s ∧ H nl = some (.lst (args.map V.int)) ∧ nl ∉ A.own ∧ mk args = some call ∧ Ans c A H s call Q
section
variable {c : Cs} {A : AD} {H H1 : Hp} {s s1 : Al} {call : Co} {Q : VK} {v : Int}
theorem Y4 {l : List Int} (q : Ans c A H s call Q) (e : Ae s call = (s1, l)) (T1 : Tab c A H1 s1) (k1 : Bj A H H1) {p : Addr} (np : H1 p = none) : Q (.ref p) (upd H1 p (.lst (l.map V.int))) := by
 have n := New.upd (o := .lst (l.map V.int)) np;refine q _ A p ?_ rfl (k1.trans (Bj.new n)).kept ?_ (T1.apart np) fun b o h nn m => Av (k1 b o h nn m) np
 ·rw [e]; exact T1.same n
 ·rw [e]; exact Ao
theorem D4 (q : Ans c A H s call Q) (e : Ae s call = (s1, [v])) (T1 : Tab c A H1 s1) (k1 : Bj A H H1) : ([V.int v] : List V).length ≤ sizeLine ∧ ∀ p, H1 p = none → Q (.ref p) (upd H1 p (.lst [V.int v])) :=
 ⟨by show 1 ≤ sizeLine; decide, fun p np => Y4 q e T1 k1 np⟩
end
section
variable {P : Program} {w : World} {K : Ad} {mg : Str → Option Value} {base : Heap} {C : Addr} {c : Cs}
def G7 : Sp := fun vs H Q _ => ∃ n a b : Int, vs = [.int n, .int a, .int b] ∧ Q (.bl (Bi n a b)) H
theorem Ab1 : A8 ["number", "least", "greatest"] ["number", "least", "greatest"] (Ar s_within) := by constructor<;>first|rfl|decide +kernel
theorem Abd (D : De K mg "within" s_within ["number", "least", "greatest"]) : Fn P w K mg base "within" 1 ["number", "least", "greatest"] G7 := by
 refine D.fn fun f fd F => F.ok Ab1 (fun vs H Q E h => ?_) (fun cdv A outer s H vs Q E hr h => ?_)
 ·obtain ⟨n, a, b, rfl, _⟩ := h;rfl
 ·obtain ⟨n, a, b, rfl, q⟩ := h;refine ⟨_, (Ai (A1 (Ag5 (Ji Aed (pv 1) (pv 0) (Cq _)) (Acy (Ji Aed (pv 0) (pv 2) (Cq _)))))), ?_⟩;refine ⟨_, rfl, _, rfl, _, _, rfl, rfl, _, rfl, Cm (fun h => ?_) (fun h => ?_)⟩
  ·refine ⟨_, rfl, _, rfl, _, _, rfl, rfl, ?_⟩;have e : decide (n ≤ b) = Bi n a b := by unfold Bi; rw [h]; rfl
   show Q (.bl (decide (n ≤ b))) H;rw [e];exact q
  ·have e : false = Bi n a b := by
    unfold Bi
    cases hd : decide (a ≤ n) with
    | false => rfl
    | true => exact absurd hd h
   show Q (.bl false) H;rw [e];exact q
def Li (c : Cs) : Sp := fun vs H Q _ => ∃ (A : AD) (s : Al) (k : Int), vs = [.ref A.t, .int k] ∧ Tab c A H s ∧ Q (.bl (B0 s k)) H
theorem W6 : A8 ["table", "k"] ["table", "k"] (Ar s_has_kind) := by constructor<;>first|rfl|decide +kernel
theorem Xh (D : De K mg "has_kind" s_has_kind ["table", "k"]) (cT : CK K c.T tK) (M : Tops mg) (DW : Fn P w K mg base "within" 1 ["number", "least", "greatest"] G7) : Fn P w K mg base "has_kind" 2 ["table", "k"] (Li c) := by
 refine D.fn fun f fd F => F.ok W6 (fun vs H Q E h => ?_) (fun cdv A outer s H vs Q E hr h => ?_)
 ·obtain ⟨A, s, k, rfl, _⟩ := h;rfl
 ·obtain ⟨A, s, k, rfl, T, q⟩ := h;refine ⟨_, (Ai (A1 (Br DW (hr.mono (by decide)) rfl (Aa (pv 1) (Aa Ax (Aa (Et K2 (C1 C2 (by rfl) M.no_len Cw (Aa (An (pv 0) rfl) Ag)) Ax) Ag)))))), ?_⟩;obtain ⟨st, hd, ⟨dt, ht, lt⟩, si⟩ := T.tab;refine ⟨_, rfl, _, rfl, _, _, _, _, _, rfl, ht, cT.cls, cT.n 0 rfl, cT.l lt 0 rfl, _, _, rfl, .inl (SqL.of T.kl), _, _, rfl, rfl, _, _, _, rfl, ?_⟩;have e : Bi k 0 (((A.ks.map V.ref).length : Int) - 1) = B0 s k := by
   unfold Bi B0;rw [Ac, T.klen]
   congr 1
   exact decide_eq_decide.mpr (by omega)
  rw [e];exact q
def K0 (b : Bool) (s : Al) : Int := if b = false then -1 else if J6 s = true then -2 else 0
def G8 (c : Cs) : Sp := fun vs H Q _ => ∃ (A : AD) (s : Al) (b : Bool), vs = [.ref A.t, .bl b] ∧ Tab c A H s ∧ Q (.int (K0 b s)) H
theorem Ku : A8 ["table", "in_range"] ["table", "in_range"] (Ar s_writing_refusal) := by constructor<;>first|rfl|decide +kernel
theorem K3 (D : De K mg "writing_refusal" s_writing_refusal ["table", "in_range"]) (cT : CK K c.T tK) (cP : CK K c.P pK) (M : Tops mg) (DE : Me P w K mg base c.P "at_end" 1 ["self"] (X9 c)) : Fn P w K mg base "writing_refusal" 2 ["table", "in_range"] (G8 c) := by
 refine D.fn fun f fd F => F.ok Ku (fun vs H Q E h => ?_) (fun cdv A outer s H vs Q E hr h => ?_)
 ·obtain ⟨A, s, b, rfl, _⟩ := h;rfl
 ·obtain ⟨A, s, b, rfl, T, q⟩ := h;refine ⟨_, (Ab (Ca (D7 (Ck (pv 1))) (Ai (A1 (C7 M.OUT_OF_RANGE rfl))) Bg)
   (Ab (Ca (Ck (Zb DE (An (pv 0) rfl) (hr.mono (by decide)))) (Ai (A1 (C7 M.PAPER_AT_END rfl))) Bg)
   (Ai (A1 Ax)))), ?_⟩
  obtain ⟨st, hd, ⟨dt, ht, lt⟩, si⟩ := T.tab;obtain ⟨dp, hp, lp⟩ := id T.pp;unfold K0 at q;refine ⟨_, rfl, _, rfl, Cm (fun h => ?_) (fun h => ?_)⟩
  ·rw [if_pos (by simpa using h)] at q;exact q
  ·rw [if_neg (by simpa using h)] at q;refine ⟨_, rfl, _, _, _, _, _, rfl, ht, cT.cls, cT.n 3 rfl, cT.l lt 3 rfl, A.pp, dp, _, rfl, hp, Le (by decide +kernel), A, s, rfl, T, _, rfl, Cm (fun h2 => ?_) (fun h2 => ?_)⟩
   ·rw [if_pos h2] at q;exact q
   ·rw [if_neg h2] at q;exact q
theorem F3 {b : Bool} {s : Al} (h : K0 b s < 0) : (b = false ∧ K0 b s = -1) ∨ (b = true ∧ J6 s = true ∧ K0 b s = -2) := by
 unfold K0 at h ⊢
 cases b with
 | false => exact .inl ⟨rfl, rfl⟩
 | true =>
  cases hw : J6 s with
  | true => exact .inr ⟨rfl, rfl, rfl⟩
  | false => rw [hw] at h; simp at h
theorem Gz {b : Bool} {s : Al} (h : ¬ K0 b s < 0) : b = true ∧ J6 s = false := by
 unfold K0 at h
 cases b with
 | false => exact absurd (by simp) h
 | true =>
  cases hw : J6 s with
  | true => rw [hw] at h; exact absurd (by simp) h
  | false => exact ⟨rfl, rfl⟩
theorem Tab.kindOf {A : AD} {H : Hp} {s : Al} (T : Tab c A H s) {k : Int} (h : B0 s k = true) : ∃ p, A.ks[k.toNat]? = some p ∧ k = (k.toNat : Int) ∧ atI (A.ks.map V.ref) k = some (.ref p) := by
 obtain ⟨h1, h2⟩ := Ey.mp h;have hl : k.toNat < A.ks.length := by rw [T.klen]; omega
 have hk : k = (k.toNat : Int) := by omega
 refine ⟨A.ks[k.toNat], Aq hl, hk, Ew hk ?_⟩;rw [Ap, Aq hl];rfl
def mk1 (f : Int → Co) : List Int → Option Co
 | [k] => some (f k)
 | _ => none
theorem E7 {f : Int → Co} {args : List Int} {call : Co} (h : mk1 f args = some call) : ∃ k, args = [k] ∧ call = f k := by
 match args, h with
 | [k], h => exact ⟨k, rfl, (Ah h).symm⟩
theorem Agv : A8 ["table", "numbers", "k", "refusal"] ["table", "numbers"] (Ar s_on) := by constructor<;>first|rfl|decide +kernel
theorem Ako (D : De K mg "on" s_on ["table", "numbers"]) (cT : CK K c.T tK) (M : Tops mg) (DR : Fn P w K mg base "writing_refusal" 2 ["table", "in_range"] (G8 c)) (DH : Fn P w K mg base "has_kind" 2 ["table", "k"] (Li c)) (DS : Fn P w K mg base "start_condition" 7 ["table", "kind"] (Sl c Ez)) :
  Fn P w K mg base "on" 8 ["table", "numbers"] (Dt c (mk1 .on)) := by
 refine D.fn fun f fd F => F.ok Agv (fun vs H Q E h => ?_) (fun cdv A outer s H vs Q E hr h => ?_)
 ·obtain ⟨A, s, nl, args, call, rfl, _⟩ := h;rfl
 ·obtain ⟨A, s, nl, args, call, rfl, T, W, hnl, nown, hmk, q⟩ := h;obtain ⟨k, rfl, rfl⟩ := E7 hmk;refine ⟨_, (Ab (Bf (i := 2) Agv.nd rfl (A7 rfl) (Du Cr (pv 1) Ax (fun _ _ => rfl)))
   (Ab (Bf (i := 3) Agv.nd rfl (A7 rfl) (Br DR (hr.mono (by decide)) rfl (Aa (pv 0) (Aa (Br DH (hr.mono (by decide)) rfl (Aa (pv 0) (Aa (pv 2) Ag))) Ag))))
   (Ab (Ca (B6 Kb (pv 3) Ax (Cq _)) (Ai (A1 (Bl (Aa (pv 3) Ag)))) Bg)
   (Ai (A1 (Bl (Aa (Br DS (hr.mono (by decide)) rfl (Aa (pv 0) (Aa (Du Cr (An (pv 0) rfl) (pv 2) (fun _ _ => rfl)) Ag))) Ag))))))), ?_⟩
  obtain ⟨st, hd, ⟨dt, ht, lt⟩, si⟩ := T.tab;refine ⟨_, rfl, nl, _, _, _, rfl, rfl, SqL.of hnl, Ew (j := 0) rfl rfl, ?_⟩;refine ⟨_, rfl, _, rfl, _, rfl, A, s, k, rfl, T, A, s, _, rfl, T, ?_⟩;refine ⟨_, rfl, _, _, rfl, rfl, _, rfl, Cm (fun hn => ?_) (fun hn => ?_)⟩
  ·refine ⟨_, rfl, ?_⟩
   rcases F3 (of_decide_eq_true hn) with ⟨h1, h2⟩ | ⟨h1, h2, h3⟩
   ·rw [h2]; exact D4 q (by unfold Ae; simp [h1]) T Bj.refl
   ·rw [h3]; exact D4 q (by unfold Ae; simp [h1, h2]) T Bj.refl
  ·obtain ⟨h1, h2⟩ := Gz fun z => hn (decide_eq_true z);obtain ⟨p, hp, hk, hat⟩ := T.kindOf h1;refine ⟨_, rfl, _, rfl, _, _, _, _, _, rfl, ht, cT.cls, cT.n 0 rfl, cT.l lt 0 rfl, _, rfl, A.kl, _, _, _, rfl, rfl, SqL.of T.kl, hat, A, s, k.toNat, p, rfl, hp, T, W.pap, W.lim, fun H1 T1 k1 => ?_⟩;exact D4 q (by unfold Ae; simp [h1, h2]) T1 k1
theorem Acp : A8 ["table", "numbers", "k", "refusal"] ["table", "numbers"] (Ar s_off) := by constructor<;>first|rfl|decide +kernel
theorem Aja (D : De K mg "off" s_off ["table", "numbers"]) (cT : CK K c.T tK) (M : Tops mg) (DR : Fn P w K mg base "writing_refusal" 2 ["table", "in_range"] (G8 c)) (DH : Fn P w K mg base "has_kind" 2 ["table", "k"] (Li c)) (DS : Fn P w K mg base "end_condition" 7 ["table", "kind"] (Sl c E4)) :
  Fn P w K mg base "off" 8 ["table", "numbers"] (Dt c (mk1 .off)) := by
 refine D.fn fun f fd F => F.ok Acp (fun vs H Q E h => ?_) (fun cdv A outer s H vs Q E hr h => ?_)
 ·obtain ⟨A, s, nl, args, call, rfl, _⟩ := h;rfl
 ·obtain ⟨A, s, nl, args, call, rfl, T, W, hnl, nown, hmk, q⟩ := h;obtain ⟨k, rfl, rfl⟩ := E7 hmk;refine ⟨_, (Ab (Bf (i := 2) Acp.nd rfl (A7 rfl) (Du Cr (pv 1) Ax (fun _ _ => rfl)))
   (Ab (Bf (i := 3) Acp.nd rfl (A7 rfl) (Br DR (hr.mono (by decide)) rfl (Aa (pv 0) (Aa (Br DH (hr.mono (by decide)) rfl (Aa (pv 0) (Aa (pv 2) Ag))) Ag))))
   (Ab (Ca (B6 Kb (pv 3) Ax (Cq _)) (Ai (A1 (Bl (Aa (pv 3) Ag)))) Bg)
   (Ai (A1 (Bl (Aa (Br DS (hr.mono (by decide)) rfl (Aa (pv 0) (Aa (Du Cr (An (pv 0) rfl) (pv 2) (fun _ _ => rfl)) Ag))) Ag))))))), ?_⟩
  obtain ⟨st, hd, ⟨dt, ht, lt⟩, si⟩ := T.tab;refine ⟨_, rfl, nl, _, _, _, rfl, rfl, SqL.of hnl, Ew (j := 0) rfl rfl, ?_⟩;refine ⟨_, rfl, _, rfl, _, rfl, A, s, k, rfl, T, A, s, _, rfl, T, ?_⟩;refine ⟨_, rfl, _, _, rfl, rfl, _, rfl, Cm (fun hn => ?_) (fun hn => ?_)⟩
  ·refine ⟨_, rfl, ?_⟩
   rcases F3 (of_decide_eq_true hn) with ⟨h1, h2⟩ | ⟨h1, h2, h3⟩
   ·rw [h2]; exact D4 q (by unfold Ae; simp [h1]) T Bj.refl
   ·rw [h3]; exact D4 q (by unfold Ae; simp [h1, h2]) T Bj.refl
  ·obtain ⟨h1, h2⟩ := Gz fun z => hn (decide_eq_true z);obtain ⟨p, hp, hk, hat⟩ := T.kindOf h1;refine ⟨_, rfl, _, rfl, _, _, _, _, _, rfl, ht, cT.cls, cT.n 0 rfl, cT.l lt 0 rfl, _, rfl, A.kl, _, _, _, rfl, rfl, SqL.of T.kl, hat, A, s, k.toNat, p, rfl, hp, T, W.pap, W.lim, fun H1 T1 k1 => ?_⟩;exact D4 q (by unfold Ae; simp [h1, h2]) T1 k1
theorem Tw : A8 ["table", "numbers", "n", "refusal", "next_before"] ["table", "numbers"] (Ar s_tick) := by constructor<;>first|rfl|decide +kernel
theorem Ahb (D : De K mg "tick" s_tick ["table", "numbers"]) (cT : CK K c.T tK) (cP : CK K c.P pK) (M : Tops mg) (DR : Fn P w K mg base "writing_refusal" 2 ["table", "in_range"] (G8 c)) (DW : Fn P w K mg base "within" 1 ["number", "least", "greatest"] G7) (DP : Fn P w K mg base "pass_seconds" 8 ["table", "n"] (Afu c)) :
  Fn P w K mg base "tick" 9 ["table", "numbers"] (Dt c (mk1 .tick)) := by
 refine D.fn fun f fd F => F.ok Tw (fun vs H Q E h => ?_) (fun cdv A outer s H vs Q E hr h => ?_)
 ·obtain ⟨A, s, nl, args, call, rfl, _⟩ := h;rfl
 ·obtain ⟨A, s, nl, args, call, rfl, T, W, hnl, nown, hmk, q⟩ := h;obtain ⟨n, rfl, rfl⟩ := E7 hmk;refine ⟨_, (Ab (Bf (i := 2) Tw.nd rfl (A7 rfl) (Du Cr (pv 1) Ax (fun _ _ => rfl)))
   (Ab (Bf (i := 3) Tw.nd rfl (A7 rfl) (Br DR (hr.mono (by decide)) rfl (Aa (pv 0) (Aa (Br DW (hr.mono (by decide)) rfl (Aa (pv 2) (Aa Ax (Aa Ax Ag)))) Ag))))
   (Ab (Ca (B6 Kb (pv 3) Ax (Cq _)) (Ai (A1 (Bl (Aa (pv 3) Ag)))) Bg)
   (Ab (Ca (B6 Pr (Et J9 (An (pv 0) rfl) (pv 2)) (C7 M.LAST_SECOND rfl) (Cq _)) (Ai (A1 (Bl (Aa (C7 M.CLOCK_TOO_FAR rfl) Ag)))) Bg)
   (Ab (Bf (i := 4) Tw.nd rfl (A7 rfl) (An (An (pv 0) rfl) rfl))
   (Ab (Cv (Br DP (hr.mono (by decide)) rfl (Aa (pv 0) (Aa (pv 2) Ag))))
   (Ai (A1 (Bl (Aa (Et K2 (An (An (pv 0) rfl) rfl) (pv 4)) Ag)))))))))), ?_⟩
  obtain ⟨st, hd, ⟨dt, ht, lt⟩, si⟩ := T.tab;obtain ⟨dp, hp, lp⟩ := id T.pp;refine ⟨_, rfl, nl, _, _, _, rfl, rfl, SqL.of hnl, Ew (j := 0) rfl rfl, ?_⟩;refine ⟨_, rfl, _, rfl, n, 1, 3600, rfl, A, s, _, rfl, T, ?_⟩;refine ⟨_, rfl, _, _, rfl, rfl, _, rfl, Cm (fun hn => ?_) (fun hn => ?_)⟩
  ·refine ⟨_, rfl, ?_⟩
   rcases F3 (of_decide_eq_true hn) with ⟨h1, h2⟩ | ⟨h1, h2, h3⟩
   ·rw [h2]; exact D4 q (by unfold Ae; simp [h1]) T Bj.refl
   ·rw [h3]; exact D4 q (by unfold Ae; simp [h1, h2]) T Bj.refl
  ·obtain ⟨h1, h2⟩ := Gz fun z => hn (decide_eq_true z);obtain ⟨hn1, hn2⟩ := Gp.mp h1;obtain ⟨n, rfl⟩ : ∃ m : Nat, n = (m : Int) := ⟨n.toNat, by omega⟩;refine ⟨_, rfl, _, _, _, _, _, rfl, ht, cT.cls, cT.n 2 rfl, cT.l lt 2 rfl, _, rfl, _, _, rfl, rfl, _, _, rfl, rfl, _, rfl, Cm (fun hl => ?_) (fun hl => ?_)⟩
   ·have hl : Rb < s.now + n := by have := of_decide_eq_true hl; unfold Rb; omega
    exact D4 q (by unfold Ae; simp [h1, h2, hl]) T Bj.refl
   ·have hl : ¬ Rb < s.now + n := fun z => hl (decide_eq_true (by unfold Rb at z; omega));refine ⟨_, rfl, _, _, _, _, _, rfl, ht, cT.cls, cT.n 3 rfl, cT.l lt 3 rfl, _, _, _, _, _, rfl, hp, cP.cls, cP.n 0 rfl, cP.l lp 0 rfl, ?_⟩;refine ⟨_, rfl, _, rfl, A, s, n, rfl, T, W, by omega, fun H1 T1 k1 => ?_⟩;obtain ⟨st1, hd1, ⟨dt1, ht1, lt1⟩, si1⟩ := T1.tab;obtain ⟨dp1, hp1, lp1⟩ := id T1.pp;refine ⟨_, rfl, _, _, _, _, _, rfl, ht1, cT.cls, cT.n 3 rfl, cT.l lt1 3 rfl, _, _, _, _, _, rfl, hp1, cP.cls, cP.n 0 rfl, cP.l lp1 0 rfl, _, rfl, _, _, rfl, rfl, ?_⟩;have e := V2 (Pc n s);have z := D4 (v := Om s (Kk n s)) q (by unfold Ae; simp [h1, h2, hl]) T1 k1;rw [← e] at z;exact z
theorem Yz : A8 ["table", "numbers", "k", "refusal", "kind"] ["table", "numbers"] (Ar s_ack) := by constructor<;>first|rfl|decide +kernel
theorem Ajb (D : De K mg "ack" s_ack ["table", "numbers"]) (cT : CK K c.T tK) (cK : CK K c.K kK) (M : Tops mg) (DR : Fn P w K mg base "writing_refusal" 2 ["table", "in_range"] (G8 c)) (DH : Fn P w K mg base "has_kind" 2 ["table", "k"] (Li c)) (DA : Fn P w K mg base "acknowledge" 6 ["table", "kind"] (Acn c)) :
  Fn P w K mg base "ack" 8 ["table", "numbers"] (Dt c (mk1 .ack)) := by
 refine D.fn fun f fd F => F.ok Yz (fun vs H Q E h => ?_) (fun cdv A outer s H vs Q E hr h => ?_)
 ·obtain ⟨A, s, nl, args, call, rfl, _⟩ := h;rfl
 ·obtain ⟨A, s, nl, args, call, rfl, T, W, hnl, nown, hmk, q⟩ := h;obtain ⟨k, rfl, rfl⟩ := E7 hmk;refine ⟨_, (Ab (Bf (i := 2) Yz.nd rfl (A7 rfl) (Du Cr (pv 1) Ax (fun _ _ => rfl)))
   (Ab (Bf (i := 3) Yz.nd rfl (A7 rfl) (Br DR (hr.mono (by decide)) rfl (Aa (pv 0) (Aa (Br DH (hr.mono (by decide)) rfl (Aa (pv 0) (Aa (pv 2) Ag))) Ag))))
   (Ab (Ca (B6 Kb (pv 3) Ax (Cq _)) (Ai (A1 (Bl (Aa (pv 3) Ag)))) Bg)
   (Ab (Bf (i := 4) Yz.nd rfl (A7 rfl) (Du Cr (An (pv 0) rfl) (pv 2) (fun _ _ => rfl)))
   (Ab (Ca (D7 (Ck (An (pv 4) rfl))) (Ai (A1 (Bl (Aa (C7 M.NOT_RAISED rfl) Ag)))) Bg)
   (Ab (Ca (Ck (An (pv 4) rfl)) (Ai (A1 (Bl (Aa Ax Ag)))) Bg)
   (Ab (Cv (Br DA (hr.mono (by decide)) rfl (Aa (pv 0) (Aa (pv 4) Ag))))
   (Ai (A1 (Bl (Aa Ax Ag))))))))))), ?_⟩
  obtain ⟨st, hd, ⟨dt, ht, lt⟩, si⟩ := T.tab;refine ⟨_, rfl, nl, _, _, _, rfl, rfl, SqL.of hnl, Ew (j := 0) rfl rfl, ?_⟩;refine ⟨_, rfl, _, rfl, _, rfl, A, s, k, rfl, T, A, s, _, rfl, T, ?_⟩;refine ⟨_, rfl, _, _, rfl, rfl, _, rfl, Cm (fun hn => ?_) (fun hn => ?_)⟩
  ·refine ⟨_, rfl, ?_⟩
   rcases F3 (of_decide_eq_true hn) with ⟨h1, h2⟩ | ⟨h1, h2, h3⟩
   ·rw [h2]; exact D4 q (by unfold Ae; simp [h1]) T Bj.refl
   ·rw [h3]; exact D4 q (by unfold Ae; simp [h1, h2]) T Bj.refl
  ·obtain ⟨h1, h2⟩ := Gz fun z => hn (decide_eq_true z);obtain ⟨p, hp, hk, hat⟩ := T.kindOf h1;obtain ⟨x, hx⟩ := T.kindAt hp;obtain ⟨d0, h0, l0⟩ := T.kin _ p x hp hx;have eup : Dv s k.toNat = x.up.isSome := by unfold Dv; rw [hx]
   refine ⟨_, rfl, _, _, _, _, _, rfl, ht, cT.cls, cT.n 0 rfl, cT.l lt 0 rfl, _, rfl, A.kl, _, _, _, rfl, rfl, SqL.of T.kl, hat, ?_⟩;refine ⟨_, rfl, _, _, _, _, _, rfl, h0, cK.cls, cK.n 10 rfl, cK.l l0 10 rfl, _, rfl, Cm (fun hup => ?_) (fun hup => ?_)⟩
   ·have hup : Dv s k.toNat = false := by rw [eup]; simpa using hup
    exact D4 q (by unfold Ae; simp [h1, h2, hup]) T Bj.refl
   ·have hup : x.up.isSome = true := by cases h : x.up.isSome with | true => rfl | false => rw [h] at hup; exact absurd rfl hup
    obtain ⟨u, hu⟩ := Cz.mp hup;have eup : ¬ Dv s k.toNat = false := by rw [eup, hup]; decide
    refine ⟨_, rfl, _, _, _, _, _, rfl, h0, cK.cls, cK.n 12 rfl, cK.l l0 12 rfl, _, rfl, Cm (fun ha => ?_) (fun ha => ?_)⟩
    ·have ha : u.acked = true := by rw [hu] at ha; exact ha
     have ea : Dd s k.toNat = s := by unfold Dd; rw [hx]; simp only [hu]; rw [if_pos ha]
     exact D4 q (by unfold Ae; simp [h1, h2, eup, ea, Om]) T Bj.refl
    ·have ha : ¬ u.acked = true := by rw [hu] at ha; exact ha
     refine ⟨_, rfl, _, rfl, A, s, k.toNat, p, x, rfl, hp, hx, T, ⟨W.pap, hup⟩, fun H1 T1 k1 => ?_⟩;have ea : Dd s k.toNat = Bd (Au s k.toNat (Jn x fun u => { u with acked := true, wait := 0 })) k.toNat 3 (B3 x.up) := by
      unfold Dd Jn; rw [hx]; simp only [hu]; rw [if_neg ha]; rfl
     have T1 : Tab c A H1 (Dd s k.toNat) := by rw [ea]; exact T1
     have es : Om s (Dd s k.toNat) = 1 := by unfold Om; rw [ea, Ln]; show (((s.seq + 1 - s.seq : Nat)) : Int) = 1; omega
     exact D4 q (by unfold Ae; simp [h1, h2, eup, es]) T1 k1
def mk2 (f : Int → Int → Co) : List Int → Option Co
 | [a, b] => some (f a b)
 | _ => none
theorem P2 {f : Int → Int → Co} {args : List Int} {call : Co} (h : mk2 f args = some call) : ∃ a b, args = [a, b] ∧ call = f a b := by
 match args, h with
 | [a, b], h => exact ⟨a, b, rfl, (Ah h).symm⟩
theorem Ms : A8 ["table", "numbers", "k", "n", "kind"] ["table", "numbers"] (Ar s_shelve) := by constructor<;>first|rfl|decide +kernel
theorem Abf (D : De K mg "shelve" s_shelve ["table", "numbers"]) (cT : CK K c.T tK) (cK : CK K c.K kK) (M : Tops mg) (DH : Fn P w K mg base "has_kind" 2 ["table", "k"] (Li c)) (DW : Fn P w K mg base "within" 1 ["number", "least", "greatest"] G7) :
  Fn P w K mg base "shelve" 8 ["table", "numbers"] (Dt c (mk2 .shelve)) := by
 refine D.fn fun f fd F => F.ok Ms (fun vs H Q E h => ?_) (fun cdv A outer s H vs Q E hr h => ?_)
 ·obtain ⟨A, s, nl, args, call, rfl, _⟩ := h;rfl
 ·obtain ⟨A, s, nl, args, call, rfl, T, W, hnl, nown, hmk, q⟩ := h;obtain ⟨k, n, rfl, rfl⟩ := P2 hmk;refine ⟨_, (Ab (Bf (i := 2) Ms.nd rfl (A7 rfl) (Du Cr (pv 1) Ax (fun _ _ => rfl)))
   (Ab (Bf (i := 3) Ms.nd rfl (A7 rfl) (Du Cr (pv 1) Ax (fun _ _ => rfl)))
   (Ab (Ca (PW.pt (Xd (D7 (Ck (Br DH (hr.mono (by decide)) rfl (Aa (pv 0) (Aa (pv 2) Ag))))) (Pl (D7 (Ck (Br DW (hr.mono (by decide)) rfl (Aa (pv 3) (Aa Ax (Aa Ax Ag))))))))) (Ai (A1 (Bl (Aa (C7 M.OUT_OF_RANGE rfl) Ag)))) Bg)
   (Ab (Bf (i := 4) Ms.nd rfl (A7 rfl) (Du Cr (An (pv 0) rfl) (pv 2) (fun _ _ => rfl)))
   (Ab (Ca (B6 Pr (An (pv 4) rfl) (C7 M.GRAVEST_SHELVED rfl) (Cq _)) (Ai (A1 (Bl (Aa (C7 M.RANK_TOO_GRAVE rfl) Ag)))) Bg)
   (Ab (Ca (Ck (An (pv 4) rfl)) (Ai (A1 (Bl (Aa (C7 M.ALREADY_RAISED rfl) Ag)))) Bg)
   (Ab (Bq (pv 4) (Et J9 (An (pv 0) rfl) (pv 3)) rfl)
   (Ab (Bq (pv 4) Ax rfl)
   (Ai (A1 (Bl (Aa Ax Ag)))))))))))), ?_⟩
  obtain ⟨st, hd, ⟨dt, ht, lt⟩, si⟩ := T.tab;refine ⟨_, rfl, nl, _, _, _, rfl, rfl, SqL.of hnl, Ew (j := 0) rfl rfl, ?_⟩;refine ⟨_, rfl, nl, _, _, _, rfl, rfl, SqL.of hnl, Ew (j := 1) rfl rfl, ?_⟩;refine ⟨_, rfl, _, rfl, A, s, k, rfl, T, _, rfl, Cm (fun h1 => U2 ?_) (fun h1 => ?_)⟩
  ·have h1 : B0 s k = false := by simpa using h1
   exact D4 q (by unfold Ae; simp [h1]) T Bj.refl
  ·have h1 : B0 s k = true := by simpa using h1
   refine ⟨_, rfl, n, 1, 3600, rfl, _, rfl, Cm (fun h2 => ?_) (fun h2 => ?_)⟩
   ·have h2 : Bi n 1 3600 = false := by simpa using h2
    exact D4 q (by unfold Ae; simp [h2]) T Bj.refl
   ·have h2 : Bi n 1 3600 = true := by simpa using h2
    obtain ⟨hn1, hn2⟩ := Gp.mp h2;obtain ⟨n, rfl⟩ : ∃ m : Nat, n = (m : Int) := ⟨n.toNat, by omega⟩;obtain ⟨p, hp, hk, hat⟩ := T.kindOf h1;obtain ⟨x, hx⟩ := T.kindAt hp;have o := T.kin _ p x hp hx;obtain ⟨d0, h0, l0⟩ := id o;refine ⟨_, rfl, _, _, _, _, _, rfl, ht, cT.cls, cT.n 0 rfl, cT.l lt 0 rfl, _, rfl, A.kl, _, _, _, rfl, rfl, SqL.of T.kl, hat, ?_⟩;refine ⟨_, rfl, _, _, _, _, _, rfl, h0, cK.cls, cK.n 1 rfl, cK.l l0 1 rfl, _, _, rfl, rfl, _, rfl, Cm (fun hr => ?_) (fun hr => ?_)⟩
    ·have hr : 2 ≤ x.rank := by have := of_decide_eq_true hr; omega
     exact D4 q (by unfold Ae; simp [h1, h2, hx, hr]) T Bj.refl
    ·have hr : ¬ 2 ≤ x.rank := fun z => hr (decide_eq_true (by omega));refine ⟨_, rfl, _, _, _, _, _, rfl, h0, cK.cls, cK.n 10 rfl, cK.l l0 10 rfl, _, rfl, Cm (fun hup => ?_) (fun hup => ?_)⟩
     ·exact D4 q (by unfold Ae; simp [h1, h2, hx, hr, hup]) T Bj.refl
     ·refine ⟨_, rfl, _, _, _, _, _, rfl, ht, cT.cls, cT.n 2 rfl, cT.l lt 2 rfl, _, rfl, _, _, rfl, rfl, _, rfl, ?_⟩;refine o.put cK 9 rfl fun H1 o1 e1 => ?_;refine ⟨_, rfl, ?_⟩;refine o1.put cK 8 rfl fun H2 o2 e2 => ?_;have T2 : Tab c A H2 (Au s k.toNat { x with held := 0, shelf := s.now + n }) := T.kind hp hx (e1.trans e2) o2;exact D4 q (by unfold Ae; simp [h1, h2, hx, hr, hup]) T2 (Bj.else o (e1.trans e2))
theorem Jp : A8 ["table", "numbers", "k", "refusal", "kind"] ["table", "numbers"] (Ar s_unshelve) := by constructor<;>first|rfl|decide +kernel
theorem Xe (D : De K mg "unshelve" s_unshelve ["table", "numbers"]) (cT : CK K c.T tK) (cK : CK K c.K kK) (M : Tops mg) (DR : Fn P w K mg base "writing_refusal" 2 ["table", "in_range"] (G8 c)) (DH : Fn P w K mg base "has_kind" 2 ["table", "k"] (Li c)) (DS : Fn P w K mg base "is_shelved" 1 ["table", "kind"] (Qq c)) (DA : Fn P w K mg base "raise_kind" 6 ["table", "kind"] (Tq c)) :
  Fn P w K mg base "unshelve" 8 ["table", "numbers"] (Dt c (mk1 .unshelve)) := by
 refine D.fn fun f fd F => F.ok Jp (fun vs H Q E h => ?_) (fun cdv A outer s H vs Q E hr h => ?_)
 ·obtain ⟨A, s, nl, args, call, rfl, _⟩ := h;rfl
 ·obtain ⟨A, s, nl, args, call, rfl, T, W, hnl, nown, hmk, q⟩ := h;obtain ⟨k, rfl, rfl⟩ := E7 hmk;refine ⟨_, (Ab (Bf (i := 2) Jp.nd rfl (A7 rfl) (Du Cr (pv 1) Ax (fun _ _ => rfl)))
   (Ab (Bf (i := 3) Jp.nd rfl (A7 rfl) (Br DR (hr.mono (by decide)) rfl (Aa (pv 0) (Aa (Br DH (hr.mono (by decide)) rfl (Aa (pv 0) (Aa (pv 2) Ag))) Ag))))
   (Ab (Ca (B6 Kb (pv 3) Ax (Cq _)) (Ai (A1 (Bl (Aa (pv 3) Ag)))) Bg)
   (Ab (Bf (i := 4) Jp.nd rfl (A7 rfl) (Du Cr (An (pv 0) rfl) (pv 2) (fun _ _ => rfl)))
   (Ab (Ca (D7 (Ck (Br DS (hr.mono (by decide)) rfl (Aa (pv 0) (Aa (pv 4) Ag))))) (Ai (A1 (Bl (Aa Ax Ag)))) Bg)
   (Ab (Bq (pv 4) (An (pv 0) rfl) rfl)
   (Ab (Ca (PW.pt (Acs (Ck (An (pv 4) rfl)) (Ye (B6 M8 (An (pv 4) rfl) Ax (Cq _))))) (Ab (Cv (Br DA (hr.mono (by decide)) rfl (Aa (pv 0) (Aa (pv 4) Ag))))
   (Ai (A1 (Bl (Aa Ax Ag))))) Bg)
   (Ai (A1 (Bl (Aa Ax Ag))))))))))), ?_⟩
  obtain ⟨st, hd, ⟨dt, ht, lt⟩, si⟩ := T.tab;refine ⟨_, rfl, nl, _, _, _, rfl, rfl, SqL.of hnl, Ew (j := 0) rfl rfl, ?_⟩;refine ⟨_, rfl, _, rfl, _, rfl, A, s, k, rfl, T, A, s, _, rfl, T, ?_⟩;refine ⟨_, rfl, _, _, rfl, rfl, _, rfl, Cm (fun hn => ?_) (fun hn => ?_)⟩
  ·refine ⟨_, rfl, ?_⟩
   rcases F3 (of_decide_eq_true hn) with ⟨h1, h2⟩ | ⟨h1, h2, h3⟩
   ·rw [h2]; exact D4 q (by unfold Ae; simp [h1]) T Bj.refl
   ·rw [h3]; exact D4 q (by unfold Ae; simp [h1, h2]) T Bj.refl
  ·obtain ⟨h1, h2⟩ := Gz fun z => hn (decide_eq_true z);obtain ⟨p, hp, hk, hat⟩ := T.kindOf h1;obtain ⟨x, hx⟩ := T.kindAt hp;have o := T.kin _ p x hp hx;refine ⟨_, rfl, _, _, _, _, _, rfl, ht, cT.cls, cT.n 0 rfl, cT.l lt 0 rfl, _, rfl, A.kl, _, _, _, rfl, rfl, SqL.of T.kl, hat, ?_⟩;refine ⟨_, rfl, _, rfl, A, s, k.toNat, p, x, rfl, hp, hx, T, _, rfl, Cm (fun hs => ?_) (fun hs => ?_)⟩
   ·have hs : x.shelf ≤ s.now := by
     have : decide (s.now < x.shelf) = false := by simpa using hs
     have := of_decide_eq_false this;omega
    exact D4 q (by unfold Ae; simp [h1, h2, hx, hs]) T Bj.refl
   ·have hs : ¬ x.shelf ≤ s.now := by
     intro z;refine hs ?_;have : decide (s.now < x.shelf) = false := decide_eq_false (by omega);rw [this]; rfl
    refine ⟨_, rfl, _, _, _, _, _, rfl, ht, cT.cls, cT.n 2 rfl, cT.l lt 2 rfl, _, rfl, ?_⟩;refine o.put cK 9 rfl fun H1 o1 e1 => ?_;obtain ⟨d1, h1', l1⟩ := id o1;have k1 : Bj A H H1 := Bj.else o e1;have T1 : Tab c A H1 (Au s k.toNat { x with shelf := s.now }) := T.kind hp hx e1 o1;have no : ¬ (x.cond = true ∧ x.delay = 0) → ([V.int 1] : List V).length ≤ sizeLine ∧ ∀ p, H1 p = none → Q (.ref p) (upd H1 p (.lst [V.int 1])) := fun hc =>
     D4 q (by unfold Ae; simp [h1, h2, hx, hs, hc]) T1 k1
    refine ⟨_, rfl, _, _, _, _, _, rfl, h1', cK.cls, cK.n 7 rfl, cK.l l1 7 rfl, _, rfl, Cm (fun hc => ?_) (fun hc => ?_)⟩
    ·refine ⟨_, rfl, _, _, _, _, _, rfl, h1', cK.cls, cK.n 3 rfl, cK.l l1 3 rfl, rfl, _, rfl, Cm (fun hd0 => ?_) (fun hd0 => ?_)⟩
     ·have hd0 : x.delay = 0 := by have := V.int.inj (of_decide_eq_true hd0); omega
      refine ⟨_, rfl, _, rfl, A, _, k.toNat, p, _, rfl, hp, Gj hx, T1, W.pap.put _ _, fun H2 T2 k2 => ?_⟩;have e3 : Ec (Au s k.toNat { x with shelf := s.now }) k.toNat { x with shelf := s.now } = Ec s k.toNat { x with shelf := s.now } := by
       unfold Ec;simp only;rw [Im];rfl
      have T2 : Tab c A H2 (Ec s k.toNat { x with shelf := s.now }) := by rw [← e3]; exact T2
      exact D4 q (by unfold Ae; simp [h1, h2, hx, hs, hd0, show x.cond = true from hc]) T2 (k1.trans k2)
     ·exact no fun z => hd0 (decide_eq_true (by show V.int (x.delay : Int) = V.int 0; rw [z.2]; rfl))
    ·exact iteF (no fun z => hc z.1)
theorem Ik : A8 ["table", "numbers", "t", "kind"] ["table", "numbers"] (Ar s_set_clock) := by constructor<;>first|rfl|decide +kernel
theorem Uq (D : De K mg "set_clock" s_set_clock ["table", "numbers"]) (cT : CK K c.T tK) (cK : CK K c.K kK) (M : Tops mg) (DW : Fn P w K mg base "within" 1 ["number", "least", "greatest"] G7) :
  Fn P w K mg base "set_clock" 8 ["table", "numbers"] (Dt c (mk1 .clock)) := by
 refine D.fn fun f fd F => F.ok Ik (fun vs H Q E h => ?_) (fun cdv A outer s H vs Q E hr h => ?_)
 ·obtain ⟨A, s, nl, args, call, rfl, _⟩ := h;rfl
 ·obtain ⟨A, s, nl, args, call, rfl, T, W, hnl, nown, hmk, q⟩ := h;obtain ⟨t, rfl, rfl⟩ := E7 hmk;refine ⟨_, (Ab (Bf (i := 2) Ik.nd rfl (A7 rfl) (Du Cr (pv 1) Ax (fun _ _ => rfl)))
   (Ab (Ca (D7 (Ck (Br DW (hr.mono (by decide)) rfl (Aa (pv 2) (Aa Ax (Aa (C7 M.LAST_SECOND rfl) Ag)))))) (Ai (A1 (Bl (Aa (C7 M.OUT_OF_RANGE rfl) Ag)))) Bg)
   (Ab (Ca (B6 Kb (pv 2) (An (pv 0) rfl) (Cq _)) (Ai (A1 (Bl (Aa (C7 M.CLOCK_GOES_BACK rfl) Ag)))) Bg)
   (Ab (Ca (Ck (C1 (Agc rfl) (by rfl) M.no_any boot_any (Aa (Zc (own := [("kind", 3)]) (g := Jv 3) (tt := Afq) (te := tOrV (K8 K (Fj 3) "holds") (K8 K (Fj 3) "raised")) rfl Ik.nd (Es (An (pv 0) rfl)) (Gb (N := ["table", "numbers", "t", "kind"]) (sc := Ar s_set_clock) (by decide +kernel)) (fun _ _ _ _ _ => Dj (i := 3) Ik.nd rfl (A7 rfl)) (fun _ _ _ _ _ => Qv) (fun _ _ _ _ _ => Akm (An (pv 3) rfl) (Acy (An (pv 3) rfl)))) Ag))) (Ai (A1 (Bl (Aa (C7 M.TABLE_NOT_AT_REST rfl) Ag)))) Bg)
   (Ab (Bq (pv 0) (pv 2) rfl)
   (Ai (A1 (Bl (Aa (pv 2) Ag))))))))), ?_⟩
  obtain ⟨st, hd, ot, si⟩ := T.tab;obtain ⟨dt, ht, lt⟩ := id ot;refine ⟨_, rfl, nl, _, _, _, rfl, rfl, SqL.of hnl, Ew (j := 0) rfl rfl, ?_⟩;refine ⟨_, rfl, t, 0, 1000000000, rfl, _, rfl, Cm (fun h1 => ?_) (fun h1 => ?_)⟩
  ·have h1 : Bi t 0 Rb = false := by show Bi t 0 1000000000 = false; simpa using h1
   exact D4 q (by unfold Ae; simp [h1]) T Bj.refl
  ·have h1 : Bi t 0 Rb = true := by show Bi t 0 1000000000 = true; simpa using h1
   obtain ⟨ht1, ht2⟩ := Gp.mp h1;obtain ⟨t, rfl⟩ : ∃ m : Nat, t = (m : Int) := ⟨t.toNat, by omega⟩;refine ⟨_, rfl, _, rfl, _, _, _, _, _, rfl, ht, cT.cls, cT.n 2 rfl, cT.l lt 2 rfl, _, _, rfl, rfl, _, rfl, Cm (fun h2 => ?_) (fun h2 => ?_)⟩
   ·have h2 := of_decide_eq_true h2;exact D4 q (by unfold Ae; simp only [h1]; rw [if_neg (by simp), if_pos h2]) T Bj.refl
   ·have h2 : ¬ (t : Int) < (s.now : Int) := fun z => h2 (decide_eq_true z);refine ⟨_, rfl, _, _, _, _, _, rfl, ht, cT.cls, cT.n 0 rfl, cT.l lt 0 rfl, A.kl, rfl, ⟨_, SqL.of T.kl⟩, fun D nD => ?_⟩;refine Ahp T W.lim nD (fun k => some (V.bl (Ej s k || Dv s k))) (fun j p' x' H' acc N hk' hx' n hD hz h1 _ => ?_) ?_
    ·obtain ⟨dk, hp, lk⟩ := T.kin j p' x' hk' hx';have e1 : Dv s j = x'.up.isSome := by unfold Dv; rw [hx']
     have e2 : Ej s j = x'.cond := by unfold Ej; rw [hx']
     refine ⟨rfl, U2 (B := N H') ?_⟩;refine ⟨_, rfl, _, _, _, _, _, rfl, n _ _ hp, cK.cls, cK.n 7 rfl, cK.l lk 7 rfl, _, rfl, Cm (fun hc => ?_) (fun hc => ?_)⟩
     ·refine ⟨acc, hD, hz, ?_⟩;have := h1 _ rfl;rw [e2, show x'.cond = true from hc] at this;exact this
     ·refine ⟨_, rfl, _, _, _, _, _, rfl, n _ _ hp, cK.cls, cK.n 10 rfl, cK.l lk 10 rfl, acc, hD, hz, ?_⟩;have := h1 _ rfl;rw [e2, e1, show x'.cond = false from by simpa using hc] at this;exact this
    ·have n6 := New.upd (o := .lst ((Be s.kinds.length).filterMap fun k => some (V.bl (Ej s k || Dv s k)))) nD;have el : (Be s.kinds.length).filterMap (fun k => some (V.bl (Ej s k || Dv s k))) = ((Be s.kinds.length).map fun k => Ej s k || Dv s k).map V.bl := by rw [Ip, D5]; rfl
     rw [el] at n6 ⊢;refine ⟨D, _, rfl, SqL.of Ao, _, rfl, ?_⟩;generalize upd H D (.lst (((Be s.kinds.length).map fun k => Ej s k || Dv s k).map V.bl)) = H6 at n6;have T6 := T.same n6;have k6 : Bj A H H6 := Bj.new n6;have ea : ((Be s.kinds.length).map fun k => Ej s k || Dv s k).any id = (E5 s).any fun k => Ej s k || Dv s k := by rw [Adm]; rfl
     refine Cm (fun ha => ?_) (fun ha => ?_)
     ·rw [ea] at ha;exact D4 q (by unfold Ae; simp only [h1]; rw [if_neg (by simp), if_neg h2, if_pos ha]) T6 k6
     ·rw [ea] at ha;refine ⟨_, rfl, _, rfl, ?_⟩;refine (ot.new n6).put cT 2 rfl fun H7 o7 e7 => ?_;have el2 : Adg { s with now := t } = { s with now := t, silence := Hw t st hd } := We (ks := s.kinds) si (by omega);have T7 : Tab c A H7 (Adg { s with now := t }) := by
       rw [el2];exact T6.top (st' := st) (hd' := hd) e7 o7 rfl rfl rfl rfl rfl rfl
      refine ⟨_, rfl, ?_⟩;exact D4 q (by unfold Ae; simp only [h1]; rw [if_neg (by simp), if_neg h2, if_neg ha]; rfl) T7 (k6.trans (Bj.else (ot.new n6) e7))
end
theorem Wc {α β : Type} {F : α → β → Prop} : ∀ {l : List α} {m : List β}, l.length = m.length → (∀ (j : Nat) a b, l[j]? = some a → m[j]? = some b → F a b) → Paired F l m
 | [], [], _, _ => .nil
 | [], _ :: _, h, _ => by simp at h
 | _ :: _, [], h, _ => by simp at h
 | a :: l, b :: m, h, f => .cons (f 0 a b rfl rfl) (Wc (by simpa using h) fun j x y h1 h2 => f (j + 1) x y (by simpa using h1) (by simpa using h2))
section
variable {X : Cx}
theorem Abn : MtR X "int.bit_length" (fun x xs H Q => ∃ i, x = V.int i ∧ xs = [] ∧ Q (.int (Builtin.Int.intBits i)) H) := by
 intro pins s σ H x xs v us Q I rx rxs h;obtain ⟨i, rfl, rfl, q⟩ := h;obtain ⟨t, rfl⟩ := rx
 cases rxs
 exact call_int_bit_length ⟨.int _, H, I.tok _, ⟨_, rfl⟩, q⟩
def Aim (td ty tx : TE) : TE := fun σ H Q => td σ H fun x H1 => ∃ a, x = .ref a ∧ IsD H1 a ∧ ty σ H1 fun y H2 => tx σ H2 fun z H3 => ∃ kvs k, H3 a = some (.dK kvs) ∧ y = kV k ∧ kvs.length < sizeLine ∧
 (∀ v, Fm kvs k = some v → Q v H3) ∧ (Fm kvs k = none → Q z (upd H3 a (.dK (K9 kvs k z))))
theorem Aec {o e f : Expr} {apos cpos : Pos} {td ty tx : TE} (ho : PE X o td) (he : PE X e ty) (hf : PE X f tx) (m : M2 X o "setdefault" apos e f cpos) : PE X (.Call (.Attribute o "setdefault" apos) [e, f] [] cpos) (Aim td ty tx) := by
 intro pins s σ H Q I h;refine wpAny_Call_method m.base m.few m.line Te Agk PySem.F.type_dict_setdefault (thn (ho pins s σ H _ I h) fun u s1 ⟨x, H1, I1, rx, a, ex, d, q1⟩ => ?_);subst ex;obtain rfl : u = Value.ref a := rx;obtain ⟨t1, t2, _⟩ := Ad4 I1 d;refine ⟨t1, t2, ?_⟩;rw [m.trees];refine Calls.callWith_builtin rfl (Calls.evalArgs_plain (Calls.spliced_cons (thn (he pins s1 σ H1 _ I1 q1) fun iv s2 ⟨y, H2, I2, ry, q2⟩ =>
  Calls.spliced_cons (thn (hf pins s2 σ H2 _ I2 q2) fun fv s3 ⟨z, H3, I3, rz, kvs, k, ea, ey, hlen, q3, q4⟩ => Calls.spliced_nil ?_))))
 subst ey;obtain ⟨hz, hd, vs, rel, dd⟩ := Af6 I3.hok ea;refine call_meetsIn Agk dd.typeIs PySem.F.entry_dict_setdefault (PySem.F.args_dict_setdefault_3 _ _ _) (PySem.kt_meets_setdefault (Eu X.prog X.w) a (U1 ry) hd fv) ⟨vs, dd, by rw [← rel.length]; exact hz, fun v hv => ?_, fun hn h' dd' hs => ?_⟩
 ·have rv := rel.val k;rw [hv] at rv
  cases hk : Fm kvs k with
  | none => rw [hk] at rv; exact rv.elim
  | some v' =>
   rw [hk] at rv;exact ⟨v', H3, I3.tok _, rv, q3 v' hk⟩
 ·have rv := rel.val k;rw [hn] at rv
  cases hk : Fm kvs k with
  | some v' => rw [hk] at rv; exact rv.elim
  | none =>
   have he : ∃ q, h'.get? a = some q := let ⟨q, _, _, hq, _⟩ := dd'; ⟨q, hq⟩
   have hl : (K9 kvs k z).length ≤ sizeLine := by have := Lw kvs k z; omega
   exact ⟨z, _, U7 I3 (by rw [ea]; exact G3) hs he (Ada hl hd (rel.put k rz) dd'), rz, q4 hk⟩
def Aju (td : TE) : TI := fun σ H R => td σ H fun x H1 => ∃ d, x = .ref d ∧ ((∃ o kvs, H1 d = some (.frz o (.dK kvs)) ∧ R (Itk d o kvs) H1) ∨ ∃ kvs, H1 d = some (.dK kvs) ∧ ∀ o, R (Itk d o kvs) (upd H1 d (.frz o (.dK kvs))))
theorem Uh {tg e : Expr} {td : TE} (he : PE X e td) : PI X tg e (Aju td) := by
 intro pins s σ H R I h;refine thn (he pins s σ H _ I h) fun u s1 ⟨x, H1, I1, rx, d, ex, q⟩ => ?_;subst ex;obtain rfl : u = Value.ref d := rx
 rcases q with ⟨o, kvs, hd, q⟩ | ⟨kvs, hd0, q⟩
 ·obtain ⟨hs, hgd, hx, es, ep, vs, hdt, hsz, kv, hm⟩ := I1.frzK hd;refine Wf hs hgd hx hdt (Ag1 (tk := s1.toks) I1 _ (Vw _ hdt) ⟨_, Heap.get?_push_size _ rfl, rfl, ?_⟩ q);rw [hsz] <;> rfl
 ·obtain ⟨o, I2⟩ := I1.lock hd0 G3;have hd : upd H1 d (.frz o (.dK kvs)) d = some (.frz o (.dK kvs)) := Ao;obtain ⟨hs, hgd, hx, es, ep, vs, hdt, hsz, kv, hm⟩ := I2.frzK hd;refine Wf hs hgd hx hdt (Ag1 (tk := s1.toks) I2 _ (Vw _ hdt) ⟨_, Heap.get?_push_size _ rfl, rfl, ?_⟩ (q o));rw [hsz] <;> rfl
theorem Aa3 (hc : X.calm = true) : Sh X (.builtin "sorted") (fun vs H Q => ∃ (a : Addr) (kvs : List (Key × V)) (ns : List Int), vs = [V.ref a] ∧ H a = some (.dK kvs) ∧ kvs.map (·.1) = ns.map Jk ∧ ns.length < 64 ∧
  ∀ (ns' : List Int) (p : Addr), ns'.Perm ns → ns'.Pairwise (· ≤ ·) → H p = none → Q (.ref p) (upd H p (.lst (ns'.map V.int)))) := by
 intro pins s σ H vs us Q I r h;obtain ⟨a, kvs, ns, rfl, ha, hks, h64, q⟩ := h;rw [Cy.ref1 r];obtain ⟨hz, hd, vs', rel, dd⟩ := Af6 I.hok ha;obtain ⟨ep, hat⟩ := dd.dictAt;have hlen : vs'.length = ns.length := by
  rw [← rel.length];have := congrArg List.length hks;rw [Ac, Ac] at this;exact this
 refine PySem.Calls.call_function_entry kind_sorted plain_sorted entry_sorted (args_sorted1 _) ?_;unfold Builtin.«sorted»;refine wpAny_bind (m := checkCount "sorted" 1 1 _) (wpAny_pure ?_);refine wpAny_bind (PySem.W.kdu_collect (A := X.A.in1) (PySem.W.kdl_dict (knd := Eu X.prog X.w) (kvs := vs') (ep := ep) hd) (I.ok.hd hc) hat (by rw [← rel.length]; exact hz) fun h' tk acc hk hacc => ?_);have hl : acc.toList.length = ns.length := by rw [Ep, hacc.1, hlen]
 refine wpAny_bind (wpAny_newList ?_ (by rw [hl]; exact Yb h64));have hv : Cy (ns.map V.int) acc.toList := by
  refine Wc (by rw [Ac, hl]) fun j x u hx hu => ?_;rw [Ap] at hx
  cases hn : ns[j]? with
  | none => rw [hn] at hx; cases hx
  | some i =>
   rw [hn] at hx;have ex : x = V.int i := (Ah hx).symm;subst ex;obtain ⟨k, y, hk, hkey⟩ := hacc.2 j u (by rw [← Wy]; exact hu);obtain ⟨p, hp, he⟩ := M7 rel hk;have e1 : (kvs.map (·.1))[j]? = some k := by rw [Ap, hp]; exact congrArg some he.1
   rw [hks, Ap, hn] at e1;have e2 : (Jk i : Key) = k := Ah e1;subst e2;obtain ⟨t, e⟩ := Value.isInt_shape (k := i) (v := u) hkey;exact ⟨t, e⟩
 have I1 : Inv X pins σ H { s with heap := h', toks := tk } := I.kept hk;have I2 := I1.lnew (t' := tk) hv (by rw [Ac]; exact Yb h64);have hfree : H h'.objs.size = none := I1.hok.fresh (Ak _);have ha2 : upd H h'.objs.size (.lst (ns.map V.int)) h'.objs.size = some (.lst (ns.map V.int)) := Ao;obtain ⟨hz2, its, n, rv, hob⟩ := I2.hok _ _ ha2;have hi := rv.ints;refine wpAny_bind (wpAny_holding (wpAny_call_entry PyProof.Rows.slot_list_sort ⟨_, hob, rfl⟩ PyProof.Rows.entry_list_sort
  (PyProof.Rows.list_sort_tree hob hi (by rw [hi.length]; exact h64) fun out ns' h1 h2 h3 => ⟨.none, rfl, ?_⟩) (PyProof.Rows.args_list_sort _)))
 obtain ⟨ep', he'⟩ := PyProof.Rows.sortedHeap_at (vs := its) (out := out) hob;have hlen' : (ns'.map V.int).length ≤ sizeLine := by rw [Ac, h2.length_eq]; exact Yb h64
 refine wpAny_pure ⟨_, rfl, .ref h'.objs.size, upd (upd H h'.objs.size (.lst (ns.map V.int))) h'.objs.size (.lst (ns'.map V.int)), I2.write (e := h'.objs.size) (t' := tk) (by rw [ha2]; trivial) (.inl rfl) (fun b u hb hu => ?_) ⟨_, he'⟩ ⟨hlen', out.toList, ep', Nu h1, he'⟩, rfl, ?_⟩
 ·rw [PyProof.Rows.sortedHeap_old hb (Heap.lt_size hu)]; exact hu
 ·rw [Lg];exact q ns' _ h2 h3 hfree
end
section
variable {prog : Program} {w : World} {A : Around} {R : Result → Shared → Prop} {it : Addr} {fp wr : List Addr} {n : Nat} {G : Nat → Value → Prop} {Z : Nat → Heap → Prop}
theorem Zm : (toString "max" ++ toString ".loop" : String) = "max.loop" := by decide
theorem Ahk (W : Walks prog w A.in1 it fp wr n G Z) (better : Nat → Nat → Bool) (cmp : CmpOf prog w A.in1 .Gt G better) (cellA : Addr) (off : cellA ∉ fp) (kw : List (Str × Value)) :
  ∀ (rest i : Nat) (s : Shared) (top : Value) (e0 : Nat), n - (i + 1) = rest → i + 1 ≤ n → Z (i + 1) s.heap → G (argBest better i) top → s.heap.get? cellA = some { cls := .type "list", dict := none, data := .seq #[top, top] e0, slots := #[] } →
   (∀ v h' tk, G (argBest better (n - 1)) v → (∀ b o, b ∉ wr → b ≠ cellA → s.heap.get? b = some o → h'.get? b = some o) → R (.ok (.ret v)) { s with heap := h', toks := tk }) → codeAny (model prog w) A (.builtin "max.loop" ⟨[.ref it, .none, .ref cellA], kw⟩) R s := by
 have offW : cellA ∉ wr := fun z => off (W.sub _ z);intro rest
 induction rest with
 | zero =>
  intro i s top e0 h1 h2 hz hg hcell fin;have last : i + 1 = n := by omega
  apply codeAny_builtin Vj
  rw [Around.under_plainId Em _];show wpAny _ A.in1 (seqItems? (.ref cellA) >>= _) _ _ s
  apply wpAny_bind; refine wpAny_seqItems hcell rfl ?_
  show wpAny _ A.in1 (tryCatch (pyNext (.ref it)) _ >>= _) _ _ s
  apply wpAny_bind; refine wpAny_tryCatch (W.done s _ _ (last ▸ hz) fun h' tk kept => ?_)
  have hcell' := kept cellA _ offW hcell;show wpAny _ A.in1 (updateSeq cellA (fun _ => #[]) >>= _) _ _ _
  apply wpAny_bind; refine wpAny_updateSeq hcell' rfl ?_
  apply wpAny_bind; refine wpAny_letGo (wpAny_pure ?_)
  exact fin top _ tk (by rw [← last]; exact hg) fun b o h3 h4 e => (Heap.get?_update_other _ _ (Rf h4)).trans (kept b o h3 e)
 | succ rest ih =>
  intro i s top e0 h1 h2 hz hg hcell fin;have more : i + 1 < n := by omega
  apply codeAny_builtin Vj
  rw [Around.under_plainId Em _];show wpAny _ A.in1 (seqItems? (.ref cellA) >>= _) _ _ s
  apply wpAny_bind; refine wpAny_seqItems hcell rfl ?_
  show wpAny _ A.in1 (tryCatch (pyNext (.ref it)) _ >>= _) _ _ s
  apply wpAny_bind; refine wpAny_tryCatch (W.item (i + 1) s _ _ more hz fun v h' tk hv hz' kept => ?_)
  have hcell' := kept cellA _ offW hcell;show wpAny _ A.in1 (tryCatch (holding [v, v] (richCompare .Gt v top >>= _)) _ >>= _) _ _ _
  apply wpAny_bind; refine wpAny_tryCatch (wpAny_holding ?_)
  apply wpAny_bind; refine cmp (i + 1) (argBest better i) v top _ _ _ hv hg ?_
  apply wpAny_bind; refine wpAny_holding (wpAny_truthy_bool ?_)
  apply wpAny_bind; refine wpAny_letGo (wpAny_pure ?_)
  cases hb : better (i + 1) (argBest better i) with
  | true =>
   simp only [if_true]
   apply wpAny_bind; refine wpAny_updateSeq hcell' rfl ?_
   apply wpAny_bind; refine wpAny_letGo ?_
   rw [Zm];refine wpAny_pure ⟨plainId_quiet Em _, ih (i + 1) _ v _ (by omega) more (W.frame _ _ _ hz' fun b h3 o e => ?_) ?_ (Heap.get?_update_self _ hcell' rfl) fun v' h'' tk'' hv' kept' => ?_⟩
   ·exact (Heap.get?_update_other _ _ (fun z : cellA = b => off (by rw [z]; exact h3))).trans e
   ·simp only [argBest, hb, if_true]; exact hv
   ·exact fin v' h'' tk'' hv' fun b o h3 h4 e => kept' b o h3 h4 ((Heap.get?_update_other _ _ (Rf h4)).trans (kept b o h3 e))
  | false =>
   simp only [D0, if_false]
   apply wpAny_bind; refine wpAny_letGo ?_
   rw [Zm];refine wpAny_pure ⟨plainId_quiet Em _, ih (i + 1) _ top e0 (by omega) more hz' ?_ hcell' fun v' h'' tk'' hv' kept' => ?_⟩
   ·simp only [argBest, hb, D0, if_false]; exact hg
   ·exact fin v' h'' tk'' hv' fun b o h3 h4 e => kept' b o h3 h4 (kept b o h3 e)
theorem Ahl (W : Walks prog w A.in1 it fp wr n G Z) (better : Nat → Nat → Bool) (cmp : CmpOf prog w A.in1 .Gt G better) (cellA : Addr) (off : cellA ∉ fp) (dk : Str) (dflt : Value) {s : Shared} {e0 : Nat} (hz : Z 0 s.heap)
  (hcell : s.heap.get? cellA = some { cls := .type "list", dict := none, data := .seq #[] e0, slots := #[] })
  (fin : ∀ v h' tk, ((0 < n ∧ G (argBest better (n - 1)) v) ∨ (n = 0 ∧ v = dflt)) → (∀ b o, b ∉ wr → b ≠ cellA → s.heap.get? b = some o → h'.get? b = some o) → R (.ok (.ret v)) { s with heap := h', toks := tk }) :
  codeAny (model prog w) A (.builtin "max.loop" ⟨[.ref it, .none, .ref cellA], [(dk, dflt)]⟩) R s := by
 have offW : cellA ∉ wr := fun z => off (W.sub _ z)
 apply codeAny_builtin Vj
 rw [Around.under_plainId Em _];show wpAny _ A.in1 (seqItems? (.ref cellA) >>= _) _ _ s
 apply wpAny_bind; refine wpAny_seqItems hcell rfl ?_
 show wpAny _ A.in1 (tryCatch (pyNext (.ref it)) _ >>= _) _ _ s
 by_cases h0 : 0 < n
 ·apply wpAny_bind; refine wpAny_tryCatch (W.item 0 s _ _ h0 hz fun v h' tk hv hz' kept => ?_)
  have hcell' := kept cellA _ offW hcell;show wpAny _ A.in1 (updateSeq cellA (fun _ => #[v, v]) >>= _) _ _ _
  apply wpAny_bind; refine wpAny_updateSeq hcell' rfl ?_
  rw [Zm];refine wpAny_pure ⟨plainId_quiet Em _, Ahk W better cmp cellA off _ _ 0 _ v _ rfl h0 (W.frame _ _ _ hz' fun b h3 o e => ?_) hv (Heap.get?_update_self _ hcell' rfl) fun v' h'' tk'' hv' kept' => ?_⟩
  ·exact (Heap.get?_update_other _ _ (fun z : cellA = b => off (by rw [z]; exact h3))).trans e
  ·exact fin v' h'' tk'' (.inl ⟨h0, hv'⟩) fun b o h3 h4 e => kept' b o h3 h4 ((Heap.get?_update_other _ _ (Rf h4)).trans (kept b o h3 e))
 ·have h0 : n = 0 := by omega
  subst h0
  apply wpAny_bind; refine wpAny_tryCatch (W.done s _ _ hz fun h' tk kept => ?_)
  show wpAny _ A.in1 (rule _ >>= _) _ _ _
  apply wpAny_bind; refine wpAny_rule (wpAny_pure ?_)
  exact fin dflt h' tk (.inr ⟨rfl, rfl⟩) fun b o h3 _ e => kept b o h3 e
end
section
variable {prog : Program} {w : World} {A : Around} {E : Value → Shared → Prop} {s : Shared}
theorem Ajk (a d : Value) : argsOk "max" ⟨[a], [(Str.ofString "default", d)]⟩ := by unfold argsOk; kernel_rfl
theorem Ajj (d : Value) : Builtin.Builtins.bindParams "max" ["key", "default"] 0 ⟨[], [(Str.ofString "default", d)]⟩ = pure [none, some d] := by rfl
theorem Ak2 {id : String} {b : Builtin} {args : List Value} {kw : List (Str × Value)} {Q : Value → Shared → Prop} (hk : builtinKind id = none) (hp : plainId id = true) (hb : entryFor table id = some b) (ha : argsOk id ⟨args, kw⟩)
  (hc : wpAny (model prog w) A.in1 (b ⟨args, kw⟩) (fun fin s' => match fin with
   | .done f => (match (Except.ok f : Result) with
    | .ok (.ret v) => Q v s'
    | .ok _ => False
    | .error e => E e s')
   | .again c' => c'.quiet = true ∧ codeAny (model prog w) A c' (fun r s' => match r with
    | .ok (.ret v) => Q v s'
    | .ok _ => False
    | .error e => E e s') s') E s) : wpAny (model prog w) A (call (.builtin id) args kw) Q E s := by
 apply wpAny_call
 apply codeAny_call_builtin hp hb
 simp only [checkBuiltinCall, hk]
 cases sg : Manifest.signature? id with
 | none => exact wpAny_pure hc
 | some sig =>
  have ok : Bind.checkArgs id sig ⟨args, kw⟩ = pure () := by simpa only [argsOk, sg] using ha
  show wpAny _ A.in1 (Bind.checkArgs id sig ⟨args, kw⟩) _ _ s;rw [ok]; exact wpAny_pure hc
theorem Aji {l : Addr} {its : List Value} {ns : List Int} {d : Value} {Q : Value → Shared → Prop} (hh : A.handled = none) (hl : s.heap.IsList l its.toArray) (hi : IntsAre its ns)
  (fin : ∀ h' tk v, (∀ b o, s.heap.get? b = some o → h'.get? b = some o) → ((∃ M t, v = Value.int M t ∧ M ∈ ns ∧ ∀ a ∈ ns, a ≤ M) ∨ (ns = [] ∧ v = d)) → Q v { s with heap := h', toks := tk }) :
  wpAny (model prog w) A (call (.builtin "max") [.ref l] [(Str.ofString "default", d)]) Q E s := by
 obtain ⟨xs, e⟩ := hi.allInts.items;have hn : numsOf (intItems xs).toList = ns := by rw [← e]; exact hi.numsOf
 rw [nums_intItems] at hn;rw [e] at hl;refine Ak2 PySem.F.kind_max PySem.F.plain_max PySem.F.entry_max (Ajk _ _) ?_;show wpAny _ A.in1 (Builtin.Builtins.bindParams "max" ["key", "default"] 0 ⟨[], [(Str.ofString "default", d)]⟩ >>= _) _ _ s
 apply wpAny_bind; refine wpAny_of_eq (Ajj d) ?_
 apply wpAny_bind; refine wpAny_pure ?_
 apply wpAny_bind; refine iter_intList hl fun s2 e2 st hfp hne => ?_
 apply wpAny_bind; refine wpAny_newObj_type ?_
 have off : s2.heap.objs.size ∉ [s.heap.objs.size, l] := fun hm => Ek _ (hfp _ hm);have W := Walks.list (prog := prog) (w := w) (A := A.in1) hh s.heap.objs.size l hne (intItems xs);rw [Zm];refine wpAny_pure ⟨plainId_quiet Em _, Ahl W (fun i j => decide (numAt xs i > numAt xs j)) (CmpOf.ints_gt (numAt xs) (fun _ _ => intItems_at)) s2.heap.objs.size off _ d ?_ (Heap.get?_push_size _ rfl) fun v h' tk hv kept => ?_⟩
 ·exact W.frame _ _ _ st fun b _ o e => Heap.get?_push_of_some _ e
 ·have keep : ∀ b o, s.heap.get? b = some o → h'.get? b = some o := fun b o hb => by
   have h2 : s2.heap.get? b = some o := by rw [e2]; exact Heap.get?_push_of_some _ hb
   refine kept b o ?_ (Cj (Heap.lt_size h2)) (Heap.get?_push_of_some _ h2);intro hm;rw [A9.mp hm] at hb;exact absurd (Heap.lt_size hb) (Ek _)
  have hsz : (intItems xs).size = xs.size := by simp [intItems]
  have goal : Q v { s with heap := h', toks := tk } := by
   rcases hv with ⟨h0, hv⟩ | ⟨h0, hv⟩
   ·obtain ⟨t, rfl⟩ := intItems_at hv;rw [hsz] at h0 ⊢;obtain ⟨h1, h2⟩ := argBest_gt (numAt xs) (xs.size - 1);refine fin h' tk _ keep (.inl ⟨_, t, rfl, ?_, fun a ha => ?_⟩)
    ·rw [numAt_eq, ← hn]; exact PySem.getD_mem (by rw [Ac, Ep]; omega)
    ·rw [← hn] at ha;obtain ⟨j, hj, rfl⟩ := mem_getD ha;rw [Ac, Ep] at hj;rw [← numAt_eq]; exact h2 j (by omega)
   ·refine fin h' tk v keep (.inr ⟨?_, hv⟩);rw [hsz] at h0;rw [← hn];have : xs = #[] := Array.eq_empty_of_size_eq_zero h0;rw [this]; rfl
  rw [e2];exact goal
end
section
variable {X : Cx}
def Akh (K : Ad) (tl td : TE) : TE := fun σ H Q => tl σ H fun x H1 => td σ H1 fun d H2 => ∃ (a : Addr) (ns : List Int) (d' : V), [x] = [V.ref a] ∧ [d] = [d'] ∧ SqL K H2 a (ns.map V.int) ∧ (∀ M, M ∈ ns → (∀ y ∈ ns, y ≤ M) → Q (.int M) H2) ∧ (ns = [] → Q d' H2)
theorem Ah6 {e d : Expr} {p pos kpos : Pos} {tl td : TE} (hc : X.calm = true) (hg : Gl X "max") (hm : X.mg "max" = none) (he : PE X e tl) (hd : PE X d td)
  (h1 : backTo pos (starEach [e] X.env) = (false, eval e X.env) :: backTo pos (starEach [] X.env) := by rfl) (h2 : (backTo pos (starEach [e] X.env)).any (·.1) = false := by rfl)
  (h3 : (backToKw pos (keywordEach [⟨some "default", d, kpos⟩] X.env)).all (·.1.isSome) = true := by rfl) (h4 : (backToKw pos (keywordEach [⟨some "default", d, kpos⟩] X.env)).any (·.1.isNone) = false := by rfl)
  (h5 : (backToKw pos (keywordEach [⟨some "default", d, kpos⟩] X.env)).filterMap (·.1) = [Str.ofString "default"] := by rfl) (hs : starEach [e] X.env = [(false, eval e X.env)] := by rfl) :
  PE X (.Call (.Name "max" p) [e] [⟨some "default", d, kpos⟩] pos) (Akh X.K tl td) := by
 intro pins s σ H Q I h;refine wpAny_Call_Name_kw (S2 I hg hm boot_max ?_);refine callWith_kw ?_ h1 h2 h3 h4;have ha : PA X [e] (Hv tl Nv) := Aa he Ag hs;refine thn (ha pos pins s σ H (fun vs H1 => td σ H1 fun d H2 => ∃ (a : Addr) (ns : List Int) (d' : V), vs = [V.ref a] ∧ [d] = [d'] ∧ SqL X.K H2 a (ns.map V.int) ∧ (∀ M, M ∈ ns → (∀ y ∈ ns, y ≤ M) → Q (.int M) H2) ∧ (ns = [] → Q d' H2)) I h) fun us s1 ⟨vs, H1, I1, r1, q1⟩ => ?_;have hk : PK X [⟨some "default", d, kpos⟩] (Hv td Nv) := Acw hd Ag0;refine thn (hk pos pins s1 σ H1 (fun ds H2 => ∃ (a : Addr) (ns : List Int) (d' : V), vs = [V.ref a] ∧ ds = [d'] ∧ SqL X.K H2 a (ns.map V.int) ∧ (∀ M, M ∈ ns → (∀ y ∈ ns, y ≤ M) → Q (.int M) H2) ∧ (ns = [] → Q d' H2)) I1 q1) fun ws s2 ⟨ds, H2, I2, r2, a, ns, d', ev, ed, hl, qm, qd⟩ => ?_;subst ev;subst ed;rw [h5, Cy.ref1 r1]
 cases r2 with
 | cons rd r3 =>
  cases r3
  obtain ⟨its, rv, hl', _⟩ := I2.list hl;refine Aji (I2.ok.hd hc) hl'.isList rv.ints fun h' tk v keep hv => ?_
  rcases hv with ⟨M, t, rfl, h6, h7⟩ | ⟨h6, rfl⟩
  ·exact ⟨.int M, H2, I2.kept keep, ⟨t, rfl⟩, qm M h6 h7⟩
  ·exact ⟨d', H2, I2.kept keep, rd, qd h6⟩
end
theorem Aiv {X : Cx} {k : Nat} {f : Addr} {fd : FuncData} {ps : List Str} {sp : Sp} {pins : List (Addr × Obj)} {σ : L2.St} {H : Hp} {s : Shared} {Q : VK} {us : List Value} {vs : List V}
  (F : Hu X.prog X.w X.K X.mg X.base CX0 k f fd ps sp) (hr : Fx k X.A.in1.in1) (hb : Gw X.K fd ps []) (I : Inv X pins σ H s) (r : Cy vs us) (h : sp vs H Q E0) :
  wpAny (model X.prog X.w) X.A.in1.in1 (call (.ref f) us) (EP X pins σ Q) (fun _ _ => False) s := by
 have hl : us.length = ps.length := by rw [← r.length]; exact F.len _ _ _ _ h
 have hb' := hb s us I.kIn (by rw [B8]; exact hl);rw [B8] at hb';refine wpAny_call (codeAny_mono (F.run X.A.in1.in1 X.stack s H ⟨us, []⟩ us vs Q E0 hr I.env0.in1.in1 hb' r h) fun r s' hq => ?_)
 cases r with
 | error e => exact hq
 | ok fl =>
  cases fl with
  | ret u => exact I.after hq
  | next => exact Dn hq
  | brk => exact Dn hq
  | cont => exact Dn hq
theorem Aex {prog : Program} {w : World} {s : Shared} : Aaf prog w s PyProof.Rows.intKind oneType' := fun A E x y a b _ hx hy h => by
 rw [keyLt'_oneType];exact intKind_oneLt prog w A E s x y a b hx hy h
section
variable {prog : Program} {w : World} {A : Around} {E : Value → Shared → Prop} {s : Shared}
theorem Aiu {κ : Xy} {kd : SortKind} {a kS : Addr} {e e1 : Nat} {vs : List Value} {keys : Array Value} {P : PySem.Fin → Shared → Prop}
  (hk : s.heap.get? kS = some (seqObj "list" keys e)) (ha : s.heap.get? a = some (seqObj "list" #[] e1)) (hka : kS ≠ a) (hsz : keys.size = vs.length) (hZ : vs.length ≤ 1000)
  (h0 : PyProof.Rows.KeysOf κ (keys.zip vs.toArray)) (hO : Aaf prog w s κ kd) (hkk : 2 ≤ vs.length → ∀ {Q : SortKind → Shared → Prop}, Q kd s → wpAny (model prog w) A (keyKind' keys) Q E s)
  (h : ∀ (st : SortSt) h' tk, (arrOf st).Perm (keys.zip vs.toArray) → SortedToK κ (arrOf st) (arrOf st).size → Stable κ (arrOf st) (keys.zip vs.toArray) →
   h' = (s.heap.update kS (Obj.mapSeq fun _ => (#[] : Array Value))).update a (Obj.mapSeq fun _ => (arrOf st).map (·.2)) → P (.done (.ret .none)) { s with heap := h', toks := tk }) :
  wpAny (model prog w) A (ksk_end a false vs.toArray e1 (.ref kS) keys) P E s := by
 have hzs : (keys.zip vs.toArray).size = vs.length := by rw [Array.size_zip, hsz, A4, Vm]
 have s1 := Heap.SameBut.update s.heap kS (Obj.mapSeq fun _ => (#[] : Array Value));have ha1 : (s.heap.update kS (Obj.mapSeq fun _ => (#[] : Array Value))).get? a = some (seqObj "list" #[] e1) := (s1.2 a hka.symm).trans ha;have tail : ∀ st : SortSt, (arrOf st).Perm (keys.zip vs.toArray) → failedOf st = none → SortedToK κ (arrOf st) (arrOf st).size → Stable κ (arrOf st) (keys.zip vs.toArray) → wpAny (model prog w) A (ksk_tail a false e1 (.ref kS) st) P E s := fun st hp hf hs hst => by
  have hout : ((arrOf st).map (·.2)).size = vs.length := by rw [Array.size_map, hp.size_eq, hzs]
  unfold ksk_tail
  try dsimp only
  refine wpAny_bind (listUpdate_at hk rfl ?_ (by rw [hsz, sizeLine_eq]; omega) (B7 _));refine wpAny_bind (wpAny_letGo ?_);refine wpAny_bind (seqEpoch_at ha1 rfl ?_);refine wpAny_bind (listUpdate_at ha1 rfl ?_ (B7 _) (Bz (Ot hout) (by rw [sizeLine_eq]; omega)));rw [hf];simp only [bne_self_eq_false, D0, if_false];exact wpAny_pure (h st _ _ hp hs hst rfl)
 unfold ksk_end
 try dsimp only
 rw [if_neg Bp]
 by_cases h2 : vs.toArray.size < 2
 ·rw [if_pos h2, if_pos h2];refine wpAny_bind (wpAny_pure ?_);rw [StateT.run_pure];refine wpAny_bind (wpAny_pure ?_)
  try dsimp only
  refine tail (SortSt.mk' general' (keys.zip vs.toArray) #[] 7 none) (Array.Perm.refl _) rfl ?_ (Stable.refl _);intro i j hij hj;have hj2 : j < (keys.zip vs.toArray).size := hj;rw [hzs] at hj2;rw [A4] at h2;have : i = j := by omega
  subst this;exact PyProof.Rows.KeyOrd.kle_refl _
 ·rw [if_neg h2, if_neg h2];rw [A4] at h2;refine wpAny_bind (hkk (by omega) ?_);refine wpAny_bind (wpAny_mono (PyProof.Rows.G.wpS_sortRunsSt (κ := κ) (kd := kd) (a₀ := keys.zip vs.toArray) (st := SortSt.mk' kd (keys.zip vs.toArray) #[] 7 none)
   (Q := fun _ st' => (arrOf st').Perm (keys.zip vs.toArray) ∧ failedOf st' = none ∧ SortedToK κ (arrOf st') (arrOf st').size ∧ Stable κ (arrOf st') (keys.zip vs.toArray))
   hO h0 ⟨Array.Perm.refl _, rfl, rfl⟩ rfl (Stable.refl _) (by rw [hzs]; omega) fun st' a1 a2 a3 a4 => ⟨a1, a2, by rw [a1.size_eq]; exact a3, a4⟩) ?_ fun _ _ e => e)
  rintro ⟨⟨⟩, st'⟩ s' ⟨rfl, hp, hf, hs, hst⟩
  try dsimp only
  exact tail st' hp hf hs hst
end
def adr : Value → Addr
 | .ref a => a
 | _ => 0
theorem Ait {K : Type} [DecidableEq K] {κ : Xy} {its vs : List Value} {xs : Array Keyed} {ads : List Addr} {kz : List K} (F : Value → K) (enc : K → κ.α) (le : K → K → Prop)
  (hv : vs = ads.map Value.ref) (hkz : its.map F = kz) (hke : ∀ v ∈ its, κ.keyOf v = some (enc (F v))) (hinj : ∀ a b, enc a = enc b → a = b) (hle : ∀ a b, κ.kle (enc a) (enc b) → le a b)
  (hp : xs.Perm (its.toArray.zip vs.toArray)) (hs : SortedToK κ xs xs.size) (hst : Stable κ xs (its.toArray.zip vs.toArray)) :
  ∃ ps : List (K × Addr), ps.Perm (kz.zip ads) ∧ (xs.map (·.2)).toList = (ps.map (·.2)).map Value.ref ∧ ps.Pairwise (fun p q => le p.1 q.1) ∧ ∀ c, ps.filter (fun p => decide (p.1 = c)) = (kz.zip ads).filter (fun p => decide (p.1 = c)) := by
 let G : Keyed → K × Addr := fun p => (F p.1, adr p.2)
 have ez : (its.toArray.zip vs.toArray).toList = its.zip vs := by simp
 have hl : xs.toList.Perm (its.zip vs) := by rw [← ez]; exact Array.perm_iff_toList_perm.mp hp
 have em0 : ∀ (l : List Value) (m : List Addr), (l.zip (m.map Value.ref)).map G = (l.map F).zip m := fun l => by
  induction l with
  | nil => intro m; rfl
  | cons u l ih =>
   intro m
   cases m with
   | nil => rfl
   | cons a m =>
    rw [Bc, Bc, Aan, Aan, Bc, ih m];rfl
 have em : (its.zip vs).map G = kz.zip ads := by rw [← hkz, hv]; exact em0 its ads
 have mem : ∀ p ∈ xs.toList, p.1 ∈ its ∧ ∃ a, p.2 = Value.ref a := fun p hp => by
  obtain ⟨x, y⟩ := p;obtain ⟨h1, h2⟩ := Jl (hl.mem_iff.mp hp);rw [hv] at h2;obtain ⟨a, _, e⟩ := Ay.mp h2;exact ⟨h1, a, e.symm⟩
 have mem2 : ∀ p ∈ its.zip vs, p.1 ∈ its := fun p hp => by obtain ⟨x, y⟩ := p; exact (Jl hp).1
 have fil : ∀ (l : List Keyed) (c : K), (∀ p ∈ l, p.1 ∈ its) → (l.map G).filter (fun p => decide (p.1 = c)) = (rowOf κ (enc c) l).map G := fun l c hm => by
  rw [Vr]
  congr 1
  refine Ri fun p hp => ?_;have hk := hke _ (hm p hp);show decide (F p.1 = c) = sameKey κ (enc c) p
  by_cases e : F p.1 = c
  ·rw [e] at hk;rw [sameKey_self hk, decide_eq_true e]
  ·have : sameKey κ (enc c) p = false := by
    cases hq : sameKey κ (enc c) p with
    | false => rfl
    | true =>
     have := sameKey_true hq;rw [hk] at this;exact absurd (hinj _ _ (Ah this)) e
   rw [this, decide_eq_false e]
 refine ⟨xs.toList.map G, by rw [← em]; exact hl.map G, ?_, ?_, fun c => ?_⟩
 ·rw [Array.toList_map, D5, D5]
  apply Iw
  intro p hp;obtain ⟨_, a, e⟩ := mem p hp;show p.2 = Value.ref (adr p.2);rw [e];rfl
 ·rw [Aig];intro i j hi hj hij;have hi' : i < xs.size := by simpa using hi
  have hj' : j < xs.size := by simpa using hj
  have q := hs i j (En hij) hj';have kk : ∀ n (hn : n < xs.size), KK κ xs n = enc (F xs[n].1) := fun n hn => by
   unfold KK;rw [Array.getElem?_eq_getElem hn];simp only;rw [hke _ (mem xs[n] (by simp)).1];rfl
  rw [kk i hi', kk j hj'] at q;have := hle _ _ q
  simpa [G] using this
 ·rw [fil _ c fun p hp => (mem p hp).1, hst (enc c), ez, ← fil _ c mem2, em]
structure Aaa (X : Cx) (K : Type) (le : K → K → Prop) (KV : Hp → V → K → Prop) : Prop where
 keep : ∀ H H' v z, (∀ q xs, H q = some (.tup xs) → H' q = some (.tup xs)) → KV H v z → KV H' v z
 ends : ∀ (pins : List (Addr × Obj)) (σ : L2.St) (H : Hp) (s : Shared) (kvs : List V) (its : List Value) (kz : List K), Inv X pins σ H s → Cy kvs its → Paired (KV H) kvs kz →
  ∃ (κ : Xy) (kd : SortKind) (F : Value → K) (enc : K → κ.α), its.map F = kz ∧ (∀ v ∈ its, κ.keyOf v = some (enc (F v))) ∧ (∀ a b, enc a = enc b → a = b) ∧ (∀ a b, κ.kle (enc a) (enc b) → le a b) ∧
   Aaf X.prog X.w s κ kd ∧ (2 ≤ its.length → ∀ (A : Around) (E : Value → Shared → Prop) {Q : SortKind → Shared → Prop}, Q kd s → wpAny (model X.prog X.w) A (keyKind' its.toArray) Q E s)
def KVi : Hp → V → Int → Prop := fun _ v z => v = .int z
theorem Ae1 {X : Cx} : Aaa X Int (· ≤ ·) KVi := by
 refine ⟨fun _ _ _ _ _ h => h, fun pins σ H s kvs its kz I r p => ?_⟩;have hi : IntsAre its kz := by
  clear I
  induction p generalizing its with
  | nil => cases r; exact .nil
  | cons e t ih =>
   cases r with
   | cons ru rt =>
    have e := (show _ = _ from e);subst e;obtain ⟨u, rfl⟩ := ru;exact .cons _ _ (ih _ rt)
 have hn : its.map numOf = kz := hi.nums;refine ⟨PyProof.Rows.intKind, oneType', numOf, id, hn, fun v hv => ?_, fun _ _ e => e, fun a b h => ?_, Aex, fun h2 A E Q hq => ?_⟩
 ·obtain ⟨n, t, rfl⟩ := hi.all v hv;rfl
 ·have : decide (b < a) = false := h;have := of_decide_eq_false this;omega
 ·rw [ksk_kind (keys := its.toArray) (kz := kz) (by simpa using hi) (by simpa using h2)];exact wpAny_pure hq
def KVt : Hp → V → Int × Int → Prop := fun H v z => ∃ q, v = .ref q ∧ H q = some (.tup [.int z.1, .int z.2])
def lex2 (a b : Int × Int) : Prop := a.1 < b.1 ∨ (a.1 = b.1 ∧ a.2 ≤ b.2)
def sh0 : Nat → Bool := fun _ => false
def Aga (z : Int × Int) : List (Int ⊕ List Nat) := [Jk z.1, Jk z.2]
def dec2 : Option (List (Int ⊕ List Nat)) → Int × Int
 | some [Jk a, Jk b] => (a, b)
 | _ => (0, 0)
theorem Ae0 {X : Cx} : Aaa X (Int × Int) lex2 KVt := by
 refine ⟨fun H H' v z hk ⟨q, e, h⟩ => ⟨q, e, hk _ _ h⟩, fun pins σ H s kvs its kz I r p => ?_⟩;have key : ∀ (v : V) (u : Value) (z : Int × Int), Df v u → KVt H v z → Fi s.heap sh0 u = some (Aga z) ∧ ∃ f, TupOf s.heap sh0 u f := fun v u z ru ⟨q, e, h⟩ => by
  subst e;obtain rfl : u = Value.ref q := ru;obtain ⟨_, us, rv, o, ho, hc, n, hd⟩ := I.hok q _ h
  cases rv with
  | cons r1 rt =>
   cases rt with
   | cons r2 rt =>
    cases rt
    obtain ⟨t1, rfl⟩ := r1;obtain ⟨t2, rfl⟩ := r2;refine ⟨?_, _, q, o, _, n, rfl, ho, hc, hd, rfl, fun _ => ⟨_, _, rfl⟩, fun z => nomatch z⟩;unfold Fi PyProof.Rows.G.isTupObj tupKey;simp only [ho, hc, hd];rfl
 have all : ∃ fs, TupsOf s.heap sh0 its fs ∧ its.map (fun v => dec2 (Fi s.heap sh0 v)) = kz ∧ ∀ v ∈ its, Fi s.heap sh0 v = some (Aga (dec2 (Fi s.heap sh0 v))) := by
  clear I
  induction p generalizing its with
  | nil => cases r; exact ⟨[], .nil, rfl, fun v hv => absurd hv (by simp)⟩
  | cons e t ih =>
   cases r with
   | cons ru rt =>
    obtain ⟨k1, f, k2⟩ := key _ _ _ ru e;obtain ⟨fs, i1, i2, i3⟩ := ih _ rt;refine ⟨f :: fs, .cons k2 i1, ?_, fun v hv => ?_⟩
    ·rw [Bc, i2, k1];rfl
    ·rcases Az.mp hv with rfl | hv
     ·rw [k1]; rfl
     ·exact i3 v hv
 obtain ⟨fs, a1, a2, a3⟩ := all;refine ⟨PyProof.Rows.G.tupKindC s.heap sh0, tuples' true, fun v => dec2 (Fi s.heap sh0 v), Aga, a2, a3, fun a b e => ?_, fun a b h => ?_, PyProof.Rows.G.tupC_ltAt true (PyProof.Rows.G.KeepsTups.refl _), fun h2 A E Q hq => ?_⟩
 ·obtain ⟨a, a'⟩ := a;obtain ⟨b, b'⟩ := b
  injection e with e1 e2
  injection e2 with e2 _
  have e1 : a = b := Afl e1;have e2 : a' = b' := Afl e2;rw [e1, e2]
 ·have h : lexLt itemOrd (Aga b) (Aga a) = false := h;unfold Aga at h;obtain ⟨h1, h2⟩ := lex_false.mp h;have h1 : decide (b.1 < a.1) = false := h1;have h1 := of_decide_eq_false h1
  rcases h2 with h2 | h2
  ·have h2 : decide (a.1 < b.1) = true := h2;exact .inl (of_decide_eq_true h2)
  ·obtain ⟨h3, _⟩ := lex_false.mp h2;have h3 : decide (b.2 < a.2) = false := h3;have h3 := of_decide_eq_false h3
   by_cases e : a.1 = b.1
   ·exact .inr ⟨e, by omega⟩
   ·exact .inl (by omega)
 ·exact tup_kind (shape := sh0) (by rw [PyProof.Rows.G.TupsOf.length a1]; omega) a1 hq
section
variable {X : Cx} {pins : List (Addr × Obj)} {σ : L2.St}
theorem Qm : ∀ {ads : List Addr} {its : List Value}, Cy (ads.map V.ref) its → its = ads.map Value.ref
 | [], _, r => by cases r; rfl
 | a :: l, _, r => by
  cases r with
  | cons r t =>
   obtain rfl : _ = Value.ref a := r;rw [Qm t];rfl
theorem Qu : ∀ {ads : List Addr}, Cy (ads.map V.ref) (ads.map Value.ref)
 | [] => .nil
 | _ :: _ => .cons rfl Qu
def Keys (K : Type) (KV : Hp → V → K → Prop) (sp : Sp) (H : Hp) (ads : List Addr) (kz : List K) : Prop := ∀ (i : Nat) (p : Addr) (z : K) (H3 : Hp), ads[i]? = some p → kz[i]? = some z → New H H3 → sp [.ref p] H3 (fun v H4 => New H3 H4 ∧ KV H4 v z) E0
theorem Ags {K : Type} [DecidableEq K] {le : K → K → Prop} {KV : Hp → V → K → Prop} (SB : Aaa X K le KV) {k : Nat} {f a : Addr} {fd : FuncData} {q : Str} {sp : Sp} {H0 H : Hp} {s : Shared} {ads : List Addr} {kz : List K} {P : PySem.Fin → Shared → Prop} {E : Value → Shared → Prop}
  (F : Hu X.prog X.w X.K X.mg X.base CX0 k f fd [q] sp) (hr : Fx k X.A.in1.in1) (hb : Gw X.K fd [q] []) (I : Inv X pins σ H s) (hH : H a = some (.lst (ads.map V.ref))) (h0 : New H0 H) (ha0 : H0 a = none) (hlen : kz.length = ads.length) (hZ : ads.length ≤ 1000) (hk : Keys K KV sp H0 ads kz)
  (h : ∀ s' H' (ps : List (K × Addr)), Inv X pins σ H' s' → ps.Perm (kz.zip ads) → ps.Pairwise (fun p q => le p.1 q.1) → (∀ c, ps.filter (fun p => decide (p.1 = c)) = (kz.zip ads).filter (fun p => decide (p.1 = c))) → New H0 H' → H' a = some (.lst ((ps.map (·.2)).map V.ref)) → P (.done (.ret .none)) s') :
  wpAny (model X.prog X.w) X.A.in1.in1 (ksk_tree a (.ref f) false) P E s := by
 obtain ⟨_, its0, n0, r0, _, ho⟩ := I.lstM hH;have ei := Qm r0;subst ei;have ho : s.heap.get? a = some (seqObj "list" (ads.map Value.ref).toArray n0) := ho;unfold ksk_tree;refine wpAny_bind (listItems_at ho rfl ?_);refine wpAny_bind (listUpdate_at ho rfl ?_ (by rw [A4, Ac, sizeLine_eq]; omega) (B7 _));obtain ⟨e1, ho1⟩ : ∃ e1, (s.heap.update a (Obj.mapSeq fun _ => (#[] : Array Value))).get? a = some (seqObj "list" #[] e1) := ⟨_, get?_update_seq ho fun _ => #[]⟩;have I1 : Inv X pins σ (upd H a (.lst [])) { s with heap := s.heap.update a (Obj.mapSeq fun _ => (#[] : Array Value)), toks := s.toks } := I.lset (its' := []) (ys := []) hH ho rfl .nil (B7 _);refine wpAny_bind (seqEpoch_at ho1 rfl ?_);refine wpAny_bind (wpAny_newTuple ?_ (by rw [List.toList_toArray, Ac, sizeLine_eq]; omega));have I2 := I1.kept (h' := (s.heap.update a (Obj.mapSeq fun _ => (#[] : Array Value))).push { cls := .type "tuple", data := .seq (ads.map Value.ref).toArray.toList.toArray }) (t' := s.toks) fun b u e => Heap.get?_push_of_some _ e;refine wpAny_bind (wpAny_newList ?_ (B7 _));have I3 := I2.lnew (its := []) (ys := []) (t' := s.toks) .nil (B7 _);refine wpAny_holding ?_;have ho3 := Heap.get?_push_of_some (h := (s.heap.update a (Obj.mapSeq fun _ => (#[] : Array Value))).push { cls := .type "tuple", data := .seq (ads.map Value.ref).toArray.toList.toArray }) { cls := .type "list", data := .seq ([] : List Value).toArray } (Heap.get?_push_of_some { cls := .type "tuple", data := .seq (ads.map Value.ref).toArray.toList.toArray } ho1);have fk := I2.fresh;generalize hkS : ((s.heap.update a (Obj.mapSeq fun _ => (#[] : Array Value))).push { cls := .type "tuple", data := .seq (ads.map Value.ref).toArray.toList.toArray }).objs.size = kS at I3 fk;have nka : kS ≠ a := fun z => by
  rw [z] at fk;have : upd H a (.lst []) a = none := fk;rw [Ao] at this
  cases this
 have hHk : H kS = none := by
  have : upd H a (.lst []) kS = none := fk
  rwa [Aw nka] at this
 have ha3 : upd (upd H a (.lst [])) kS (.lst []) a = some (.lst []) := by rw [Aw nka.symm]; exact Ao
 obtain ⟨od, I4⟩ := I3.lock ha3 trivial;have hod : od = seqObj "list" #[] e1 := by
  have e := (I4.hok a _ Ao).1;exact Ah (e.symm.trans ho3)
 subst hod;have hk0 : H0 kS = none := by
  cases e : H0 kS with
  | none => rfl
  | some o => rw [h0 _ _ e] at hHk; cases hHk
 have nf := I3.nofrz ha3 trivial;have hk4 : upd (upd (upd H a (.lst [])) kS (.lst [])) a (.frz (seqObj "list" #[] e1) (.lst [])) kS = some (.lst []) := by rw [Aw nka]; exact Ao
 have ha4 : upd (upd (upd H a (.lst [])) kS (.lst [])) a (.frz (seqObj "list" #[] e1) (.lst [])) a = some (.frz (seqObj "list" #[] e1) (.lst [])) := Ao;have n4 : New H0 (upd (upd (upd H a (.lst [])) kS (.lst [])) a (.frz (seqObj "list" #[] e1) (.lst []))) := fun b o e => by
  rw [Aw (Av e ha0), Aw (Av e hk0), Aw (Av e ha0)];exact h0 b o e
 generalize upd (upd (upd H a (.lst [])) kS (.lst [])) a (.frz (seqObj "list" #[] e1) (.lst [])) = H4 at I4 hk4 ha4 n4;have hkS' : ((s.heap.update a (Obj.mapSeq fun _ => (#[] : Array Value))).push { cls := .type "tuple", data := .seq (ads.map Value.ref).toArray.toList.toArray }).objs.size = kS := hkS;show wpAny (model X.prog X.w) X.A.in1.in1 (ksk_rest a (.ref f) false (ads.map Value.ref).toArray e1 (.ref _)) P E _;unfold ksk_rest;refine wpAny_bind (wpAny_rule ?_)
 first
  | rw [List.forIn_toArray]
  | (rw [← Array.forIn_toList]; simp only [List.toList_toArray])
  | rw [← Array.forIn_toList]
 refine wpAny_bind (ksk_fold (fun i s' => ∃ (Hj : Hp) (kvs : List V), Inv X pins σ Hj s' ∧ Hj a = some (.frz (seqObj "list" #[] e1) (.lst [])) ∧ Hj kS = some (.lst kvs) ∧ Paired (KV Hj) kvs (kz.take i) ∧ New H0 Hj) (ads.map Value.ref) 0 _
  ⟨H4, [], I4, ha4, hk4, .nil, n4⟩ ?step ?done)
 case step =>
  rintro j x s' hx ⟨Hj, kvs, Ij, haj, hkj, pj, nj⟩;simp only [Adl] at pj ⊢;rw [Ap] at hx;obtain ⟨p, hp, rfl⟩ := Vk.mp hx;have hj : j < ads.length := (Af.mp hp).1;obtain ⟨z, hz⟩ : ∃ z, kz[j]? = some z := ⟨_, Aq (by omega)⟩;refine wpAny_bind (wpAny_attempt (wpAny_mono (Aiv F hr hb Ij (vs := [.ref p]) (.cons rfl .nil) (hk j p z Hj hp hz nj)) (fun v s'' he => ?_) fun _ _ hF => hF.elim));obtain ⟨v', H', I', rv, n', kv'⟩ := he
  try dsimp only
  have hk' := n' _ _ hkj;obtain ⟨_, itk, nk, rk, hlk, hok⟩ := I'.lstM hk';have pl : kvs.length ≤ 1000 := by
   have := E6 pj;rw [Cg] at this;omega
  have hok : s''.heap.get? kS = some (seqObj "list" itk.toArray nk) := hok;refine wpAny_bind (listUpdate_at hok rfl ?_ (by rw [A4, ← hlk, sizeLine_eq]; omega) (Bz (Ot (Array.size_push ..)) (by rw [A4, ← hlk, sizeLine_eq]; omega)));have I5 := I'.lset (its' := itk ++ [v]) (ys := kvs ++ [v']) (f := (·.push v)) (t' := s''.toks) hk' hok (by simp) (rk.append (.cons rv .nil)) (by rw [A6, List.length_singleton, sizeLine_eq]; omega);have tup : ∀ (Hx : Hp) (o : HO), Hx kS = some (.lst kvs) → ∀ q xs, Hx q = some (.tup xs) → upd Hx kS o q = some (.tup xs) := fun Hx o e q xs h => by
   rw [Aw (Ng h e (by intro z; cases z))];exact h
  refine wpAny_pure ⟨rfl, _, _, I5, ?_, Ao, ?_, fun b o e => ?_⟩
  ·rw [Aw nka.symm];exact n' _ _ haj
  ·rw [Ce, hz];refine Hy (Cd (fun x y hxy => ?_) pj) ?_
   ·exact SB.keep _ _ _ _ (fun q xs h => tup H' _ hk' q xs (n' _ _ h)) hxy
   ·exact SB.keep _ _ _ _ (tup H' _ hk') kv'
  ·rw [Aw (Av e hk0)];exact n' _ _ (nj _ _ e)
 case done =>
  rintro s' ⟨Hj, kvs, Ij, haj, hkj, pj, nj⟩;rw [Adl, Ac, List.take_of_length_le (by omega)] at pj;obtain ⟨_, itk, nk, rk, hlk, hok⟩ := Ij.lstM hkj;have hok : s'.heap.get? kS = some (seqObj "list" itk.toArray nk) := hok;have haj' : s'.heap.get? a = some (seqObj "list" #[] e1) := (Ij.hok a _ haj).1
  try dsimp only
  refine wpAny_bind (listItems_at hok rfl ?_);obtain ⟨κ, kd, Fk, enc, b1, b2, b3, b4, b5, b6⟩ := SB.ends pins σ Hj s' kvs itk kz Ij rk pj;have hsz : itk.toArray.size = (ads.map Value.ref).length := by
   rw [A4, ← hlk, E6 pj, Ac, hlen]
  refine Aiu hok haj' nka hsz (by rw [Ac]; exact hZ) ?_ b5 (fun h2 Q hq => b6 (by rw [A4] at hsz; rw [hsz]; exact h2) _ _ hq) fun st h' tk hp hs hst e => ?_
  ·intro p hp;obtain ⟨x, y⟩ := p;have : (x, y) ∈ itk.zip (ads.map Value.ref) := by simpa using hp
   exact ⟨_, b2 x (Jl this).1⟩
  ·obtain ⟨ps, c1, c2, c3, c4⟩ := Ait Fk enc le rfl b1 b2 b3 b4 hp hs hst;have I5 := Ij.unlock haj nf;have hk5 : upd Hj a (.lst []) kS = some (.lst kvs) := by rw [Aw nka]; exact hkj
   have I6 := I5.lset (its' := []) (ys := []) (f := fun _ => (#[] : Array Value)) (t' := s'.toks) hk5 hok rfl .nil (B7 _);have ha6 : upd (upd Hj a (.lst [])) kS (.lst []) a = some (.lst []) := by rw [Aw nka.symm]; exact Ao
   have s1 := Heap.SameBut.update s'.heap kS (Obj.mapSeq fun _ => (#[] : Array Value));have ho6 : (s'.heap.update kS (Obj.mapSeq fun _ => (#[] : Array Value))).get? a = some (seqObj "list" ([] : List Value).toArray e1) := (s1.2 a nka.symm).trans haj';have lp : ps.length ≤ 1000 := by
    have := c1.length_eq;rw [List.length_zip] at this;omega
   have I7 := I6.lset (its' := (ps.map (·.2)).map Value.ref) (ys := (ps.map (·.2)).map V.ref) (f := fun _ => (arrOf st).map (·.2)) (t' := tk) ha6 ho6 (by rw [← c2]) Qu (by rw [Ac, Ac, sizeLine_eq]; omega);subst e;refine h _ _ ps I7 c1 c3 c4 (fun b o e => ?_) Ao;rw [Aw (Av e ha0), Aw (Av e hk0), Aw (Av e ha0)];exact nj b o e
def Ve (X : Cx) (K : Type) [DecidableEq K] (k : Nat) (le : K → K → Prop) (KV : Hp → V → K → Prop) (Q : VK) (vs gs : List V) (H2 : Hp) : Prop := ∃ (a : Addr) (ads : List Addr) (kz : List K) (f : Addr) (fd : FuncData) (q : Str) (sp : Sp), vs = [V.ref a] ∧ gs = [V.ref f] ∧ SqL X.K H2 a (ads.map V.ref) ∧
 ads.length ≤ 1000 ∧ kz.length = ads.length ∧ Hu X.prog X.w X.K X.mg X.base CX0 k f fd [q] sp ∧ Gw X.K fd [q] [] ∧ Keys K KV sp H2 ads kz ∧
 ∀ (ps : List (K × Addr)) (D : Addr) (H3 : Hp), ps.Perm (kz.zip ads) → ps.Pairwise (fun p q => le p.1 q.1) → (∀ c, ps.filter (fun p => decide (p.1 = c)) = (kz.zip ads).filter (fun p => decide (p.1 = c))) → New H2 H3 → H2 D = none → H3 D = some (.lst ((ps.map (·.2)).map V.ref)) → Q (.ref D) H3
def Aik (X : Cx) (K : Type) [DecidableEq K] (k : Nat) (le : K → K → Prop) (KV : Hp → V → K → Prop) (tl td : TE) : TE := fun σ H Q => tl σ H fun x H1 => td σ H1 fun g H2 => Ve X K k le KV Q [x] [g] H2
theorem Y9 {K : Type} [DecidableEq K] {k : Nat} {le : K → K → Prop} {KV : Hp → V → K → Prop} (SB : Aaa X K le KV) {e d : Expr} {p pos kpos : Pos} {tl td : TE} (hr : Fx (k + 2) X.A) (hg : Gl X "sorted") (hm : X.mg "sorted" = none) (he : PE X e tl) (hd : PE X d td)
  (h1 : backTo pos (starEach [e] X.env) = (false, eval e X.env) :: backTo pos (starEach [] X.env) := by rfl) (h2 : (backTo pos (starEach [e] X.env)).any (·.1) = false := by rfl)
  (h3 : (backToKw pos (keywordEach [⟨some "key", d, kpos⟩] X.env)).all (·.1.isSome) = true := by rfl) (h4 : (backToKw pos (keywordEach [⟨some "key", d, kpos⟩] X.env)).any (·.1.isNone) = false := by rfl)
  (h5 : (backToKw pos (keywordEach [⟨some "key", d, kpos⟩] X.env)).filterMap (·.1) = [Str.ofString "key"] := by rfl) (hs : starEach [e] X.env = [(false, eval e X.env)] := by rfl) :
  PE X (.Call (.Name "sorted" p) [e] [⟨some "key", d, kpos⟩] pos) (Aik X K k le KV tl td) := by
 intro pins s σ H Q I h;refine wpAny_Call_Name_kw (S2 I hg hm boot_sorted ?_);refine callWith_kw ?_ h1 h2 h3 h4;have ha : PA X [e] (Hv tl Nv) := Aa he Ag hs;refine thn (ha pos pins s σ H (fun vs H1 => td σ H1 fun g H2 => Ve X K k le KV Q vs [g] H2) I h) fun us s1 ⟨vs, H1, I1, r1, q1⟩ => ?_;have hk : PK X [⟨some "key", d, kpos⟩] (Hv td Nv) := Acw hd Ag0;refine thn (hk pos pins s1 σ H1 (fun gs H2 => Ve X K k le KV Q vs gs H2) I1 q1)
  fun ws s2 ⟨gs, H2, I2, r2, a, ads, kz, f, fd, q, sp, ev, ed, hl, hZ, hlen, F, hb, hkeys, qq⟩ => ?_
 subst ev;subst ed;rw [h5, Cy.ref1 r1, Cy.ref1 r2];obtain ⟨its, rv, hl', _⟩ := I2.list hl;have ei := Qm rv;subst ei;have hl' := hl'.isList;show wpAny _ X.A (call (.builtin "sorted") [.ref a] [(Str.ofString "key", .ref f)]) _ _ s2;refine call_function_entry_kw kind_sorted plain_sorted entry_sorted (ksk_s1 _ _) ?_;unfold Builtin.«sorted»;refine wpAny_bind (m := checkCount "sorted" 1 1 _) (wpAny_pure ?_);refine wpAny_bind (collect_list hl' ?_ (by rw [Ac, sizeLine_eq]; omega));refine wpAny_bind (wpAny_newList ?_ (by rw [Ac, sizeLine_eq]; omega));have hsz : ((s2.heap.push (seqObj "list" #[] 0)).update s2.heap.objs.size (Obj.mapSeq (· ++ (ads.map Value.ref).toArray))).objs.size = s2.heap.objs.size + 1 := by
  rw [Heap.size_update, size_push']
 have hoL : (((s2.heap.push (seqObj "list" #[] 0)).update s2.heap.objs.size (Obj.mapSeq (· ++ (ads.map Value.ref).toArray))).push (seqObj "list" (ads.map Value.ref).toArray 0)).get? (s2.heap.objs.size + 1) = some (seqObj "list" (ads.map Value.ref).toArray 0) := by
  rw [← hsz]; exact Heap.get?_push_size _ rfl
 have keep : ∀ b o, s2.heap.get? b = some o → (((s2.heap.push (seqObj "list" #[] 0)).update s2.heap.objs.size (Obj.mapSeq (· ++ (ads.map Value.ref).toArray))).push (seqObj "list" (ads.map Value.ref).toArray 0)).get? b = some o := fun b o q => by
  have hlt : b < s2.heap.objs.size := Heap.lt_size q;rw [Heap.get?_push_ne _ _ _ (by rw [hsz]; exact Cj (Rg hlt)), Heap.get?_update_ne _ _ _ _ (Cj hlt), Heap.get?_push_ne _ _ _ (Cj hlt)];exact q
 show wpAny _ _ _ _ _ { s2 with heap := ((s2.heap.push (seqObj "list" #[] 0)).update s2.heap.objs.size (Obj.mapSeq (· ++ (ads.map Value.ref).toArray))).push (seqObj "list" (ads.map Value.ref).toArray 0) };rw [hsz];have hfree : H2 (s2.heap.objs.size + 1) = none := I2.hok.fresh (F7 _);have I3 : Inv X pins σ (upd H2 (s2.heap.objs.size + 1) (.lst (ads.map V.ref))) { s2 with heap := ((s2.heap.push (seqObj "list" #[] 0)).update s2.heap.objs.size (Obj.mapSeq (· ++ (ads.map Value.ref).toArray))).push (seqObj "list" (ads.map Value.ref).toArray 0), toks := s2.toks } :=
  I2.laid keep (F7 _) ⟨by rw [Ac, sizeLine_eq]; omega, ads.map Value.ref, 0, Qu, hoL⟩
 refine wpAny_bind (wpAny_holding (wpAny_call_entry_kw slot_list_sort ⟨_, hoL, rfl⟩ entry_list_sort ?body (ksk_l1 _ _)))
 case body =>
  show wpAny (model X.prog X.w) X.A.in1.in1 (Builtin.«list.sort» ⟨[.ref (s2.heap.objs.size + 1)], [(Str.ofString "key", .ref f)]⟩) _ _ _;rw [ksk_t1];refine Ags SB F hr.in1.in1 hb I3 Ao (New.upd hfree) hfree hlen hZ hkeys fun s' H' ps I' c1 c2 c3 n' hD => ⟨_, rfl, ?_⟩;exact wpAny_pure ⟨_, rfl, .ref (s2.heap.objs.size + 1), H', I', rfl, qq ps _ H' c1 c2 c3 n' hfree hD⟩
end
theorem Abo (l : List Bk) : l.filterMap (fun r => if (!r.acked) = true then some (V.int r.rank) else none) = ((l.filter fun r => !r.acked).map fun r => (r.rank : Int)).map V.int := by
 rw [Af2 (fun r : Bk => !r.acked) (fun r => V.int r.rank), D5];rfl
theorem Z2 : ∀ (l : List Nat) (a M : Nat), M ∈ l → (∀ y ∈ l, y ≤ M) → (l.map (· + 1)).foldl max a = max a (M + 1)
 | [], _, _, h, _ => by cases h
 | y :: l, a, M, h, hm => by
  rw [Bc, Cu];have hy := hm y A0
  by_cases hl : M ∈ l
  ·rw [Z2 l _ M hl fun z hz => hm z (Am _ hz)];omega
  ·have e : y = M := by
    rcases Az.mp h with e | h
    ·exact e.symm
    ·exact absurd h hl
   subst e;have small : ∀ (l : List Nat) (b : Nat), (∀ z ∈ l, z + 1 ≤ b) → (l.map (· + 1)).foldl max b = b := by
    intro l
    induction l with
    | nil => intro b _; rfl
    | cons z l ih =>
     intro b hb;rw [Bc, Cu];have := hb z A0;rw [show max b (z + 1) = b by omega];exact ih b fun q hq => hb q (Am _ hq)
   rw [small l (max a (y + 1)) fun z hz => by have := hm z (Am _ hz); omega]
theorem Xm {s : Al} {M : Int} (h1 : M ∈ (((Aj s).filter fun r => !r.acked).map fun r => (r.rank : Int))) (h2 : ∀ y ∈ (((Aj s).filter fun r => !r.acked).map fun r => (r.rank : Int)), y ≤ M) : M + 1 = (O2 s : Int) := by
 obtain ⟨r, hr, rfl⟩ := Ay.mp h1;unfold O2;rw [Io];have e : (((Aj s).filter fun r => !r.acked).map (·.rank + 1)) = ((((Aj s).filter fun r => !r.acked).map (·.rank)).map (· + 1)) := by rw [D5]; rfl
 rw [e, Z2 _ 0 r.rank (Ay.mpr ⟨r, hr, rfl⟩)]
 ·omega
 ·intro y hy;obtain ⟨q, hq, rfl⟩ := Ay.mp hy;have := h2 (q.rank : Int) (Ay.mpr ⟨q, hq, rfl⟩);omega
theorem Ux {s : Al} (h : (((Aj s).filter fun r => !r.acked).map fun r => (r.rank : Int)) = []) : (O2 s : Int) = 0 := by
 unfold O2;rw [Io];have : ((Aj s).filter fun r => !r.acked) = [] := List.map_eq_nil_iff.mp h;rw [this];rfl
section
variable {P : Program} {w : World} {K : Ad} {mg : Str → Option Value} {base : Heap} {C : Addr} {c : Cs}
def X8 (c : Cs) : Sp := fun vs H Q _ => ∃ (A : AD) (s : Al), vs = [.ref A.t] ∧ Tab c A H s ∧ s.kinds.length ≤ 32 ∧ ∀ H', New H H' → Q (.int (Eb s)) H'
theorem Ii : A8 ["table", "loud", "kind"] ["table"] (Ar s_sound_level) := by constructor<;>first|rfl|decide +kernel
theorem Acz {X : Cx} : UnR X (unaryOp .USub) (rU fun i => .int (-i)) := by
 intro pins s σ H x v Q I r h;obtain ⟨i, rfl, q⟩ := h;obtain ⟨t, rfl⟩ := r;exact neg_int ⟨.int _, H, I.tok _, ⟨_, rfl⟩, q⟩
theorem Py (D : De K mg "sound_level" s_sound_level ["table"]) (cT : CK K c.T tK) (cK : CK K c.K kK) (M : Tops mg) (DS : Fn P w K mg base "is_silent" 1 ["table"] (Tp c)) (DK : Fn P w K mg base "raised_kinds" 1 ["table"] (Ie c)) : Fn P w K mg base "sound_level" 2 ["table"] (X8 c) := by
 refine D.fn fun f fd F => F.ok Ii (fun vs H Q E h => ?_) (fun cdv A outer s H vs Q E hr h => ?_)
 ·obtain ⟨A, s, rfl, _⟩ := h;rfl
 ·obtain ⟨A, s, rfl, T, W, q⟩ := h;refine ⟨_, (Ab (Ca (Ck (Br DS (hr.mono (by decide)) rfl (Aa (pv 0) Ag))) (Ai (A1 Ax)) Bg)
   (Ab (M4 (i := 1) (own := [("kind", 2)]) (g := Jv 2) (tt := Ail (tB (K8 K (Fj 2) "acknowledged"))) (te := K8 K (Fj 2) "rank_now") rfl Ii.nd rfl rfl rfl (Es (Br DK (hr.mono (by decide)) rfl (Aa (pv 0) Ag))) (Gb (N := ["table", "loud", "kind"]) (sc := Ar s_sound_level) (by decide +kernel)) (fun _ _ _ _ _ => Dj (i := 2) Ii.nd rfl (A7 rfl))
    (fun _ _ _ _ _ => N4 (D7 (Ck (An (pv 2) rfl)))) (fun _ _ _ _ _ => An (pv 2) rfl))
   (Ai (A1 (Et J9 (Ah6 rfl (by rfl) M.no_max (pv 1) (Aj2 Acz Ax)) Ax))))), ?_⟩
  refine ⟨_, rfl, A, s, rfl, T, _, rfl, Cm (fun hs => ?_) (fun hs => ?_)⟩
  ·have e : Eb s = 0 := by
    unfold Eb
    cases h : s.silence with
    | none => rw [h] at hs; cases hs
    | some p => rfl
   have z := q H fun _ _ h => h;rw [e] at z;exact z
  ·have e : Eb s = O2 s := by
    unfold Eb
    cases h : s.silence with
    | none => rfl
    | some p => rw [h] at hs; exact absurd rfl hs
   rw [e] at q;refine ⟨_, rfl, A, s, rfl, T, W, fun H1 l n1 nl hl => ?_⟩;have T1 := T.same n1;have rlen := Dq s;refine ⟨l, rfl, ⟨_, SqL.of hl⟩, fun D nD => ?_⟩;refine Uz T1 (fun r hr => Kc hr) (by omega) hl nD (fun r => if (!r.acked) = true then some (V.int r.rank) else none) (fun r x u dk H' acc N _ hp hu _ erk eak _ n hD hz h1 h2 => ?_) ?_
   ·refine ⟨rfl, ?_⟩;refine ⟨_, rfl, _, _, _, _, _, rfl, hp, cK.cls, cK.n 12 rfl, cK.l Zw 12 rfl, _, rfl, Cm (fun ha => ?_) (fun ha => ?_)⟩
    ·have ha : (!r.acked) = true := by rw [hu] at ha; rw [eak]; exact ha
     refine ⟨_, rfl, _, _, _, _, _, rfl, hp, cK.cls, cK.n 11 rfl, cK.l Zw 11 rfl, acc, hD, hz, ?_⟩;have := h1 (V.int r.rank) (by rw [if_pos ha]);rw [hu];show N (upd H' D (.lst (acc ++ [V.int (u.rank : Nat)])));rw [← erk];exact this
    ·have ha : ¬ (!r.acked) = true := by rw [hu] at ha; rw [eak]; exact ha
     exact h2 (by rw [if_neg ha])
   ·have n6 := n1.trans (New.upd (o := .lst ((Aj s).filterMap fun r => if (!r.acked) = true then some (V.int r.rank) else none)) nD);have hD6 : upd H1 D (.lst ((Aj s).filterMap fun r => if (!r.acked) = true then some (V.int r.rank) else none)) D = some (.lst ((Aj s).filterMap fun r => if (!r.acked) = true then some (V.int r.rank) else none)) := Ao;generalize upd H1 D (.lst ((Aj s).filterMap fun r => if (!r.acked) = true then some (V.int r.rank) else none)) = H6 at n6 hD6;rw [Abo] at hD6;refine ⟨_, rfl, _, rfl, D, (((Aj s).filter fun r => !r.acked).map fun r => (r.rank : Int)), _, rfl, rfl, SqL.of hD6, fun m h1 h2 => ?_, fun h0 => ?_⟩
    ·refine ⟨_, _, rfl, rfl, ?_⟩;have z := q H6 n6;rw [← Xm h1 h2] at z;exact z
    ·refine ⟨_, _, rfl, rfl, ?_⟩;have z := q H6 n6;rw [Ux h0] at z;exact z
theorem N0 : A8 ["table", "numbers", "n", "level"] ["table", "numbers"] (Ar s_silence) := by constructor<;>first|rfl|decide +kernel
theorem Zh (D : De K mg "silence" s_silence ["table", "numbers"]) (cT : CK K c.T tK) (M : Tops mg) (DW : Fn P w K mg base "within" 1 ["number", "least", "greatest"] G7) (DL : Fn P w K mg base "sound_level" 2 ["table"] (X8 c)) :
  Fn P w K mg base "silence" 8 ["table", "numbers"] (Dt c (mk1 .silence)) := by
 refine D.fn fun f fd F => F.ok N0 (fun vs H Q E h => ?_) (fun cdv A outer s H vs Q E hr h => ?_)
 ·obtain ⟨A, s, nl, args, call, rfl, _⟩ := h;rfl
 ·obtain ⟨A, s, nl, args, call, rfl, T, W, hnl, nown, hmk, q⟩ := h;obtain ⟨n, rfl, rfl⟩ := E7 hmk;refine ⟨_, (Ab (Bf (i := 2) N0.nd rfl (A7 rfl) (Du Cr (pv 1) Ax (fun _ _ => rfl)))
   (Ab (Ca (D7 (Ck (Br DW (hr.mono (by decide)) rfl (Aa (pv 2) (Aa Ax (Aa Ax Ag)))))) (Ai (A1 (Bl (Aa (C7 M.OUT_OF_RANGE rfl) Ag)))) Bg)
   (Ab (Bf (i := 3) N0.nd rfl (A7 rfl) (Br DL (hr.mono (by decide)) rfl (Aa (pv 0) Ag)))
   (Ab (Ca (B6 M8 (pv 3) Ax (Cq _)) (Ai (A1 (Bl (Aa (C7 M.NOTHING_SOUNDS rfl) Ag)))) Bg)
   (Ab (Bq (pv 0) (Et J9 (An (pv 0) rfl) (pv 2)) rfl)
   (Ab (Bq (pv 0) (Et K2 (pv 3) Ax) rfl)
   (Ai (A1 (Bl (Aa (An (pv 0) rfl) Ag)))))))))), ?_⟩
  refine ⟨_, rfl, nl, _, _, _, rfl, rfl, SqL.of hnl, Ew (j := 0) rfl rfl, ?_⟩;refine ⟨_, rfl, n, 1, 120, rfl, _, rfl, Cm (fun h1 => ?_) (fun h1 => ?_)⟩
  ·have h1 : Bi n 1 120 = false := by simpa using h1
   exact D4 q (by unfold Ae; simp [h1]) T Bj.refl
  ·have h1 : Bi n 1 120 = true := by simpa using h1
   obtain ⟨hn1, hn2⟩ := Gp.mp h1;obtain ⟨n, rfl⟩ : ∃ m : Nat, n = (m : Int) := ⟨n.toNat, by omega⟩;refine ⟨_, rfl, A, s, rfl, T, W.lim, fun H1 n1 => ?_⟩;have T1 := T.same n1;have k1 : Bj A H H1 := Bj.new n1;refine ⟨_, rfl, rfl, _, rfl, Cm (fun h0 => ?_) (fun h0 => ?_)⟩
   ·have h0 : Eb s = 0 := by have := V.int.inj (of_decide_eq_true h0); omega
    exact D4 q (by unfold Ae; simp [h1, h0]) T1 k1
   ·have h0 : ¬ Eb s = 0 := fun z => h0 (decide_eq_true (by rw [z]; rfl));obtain ⟨st, hd, ot, si⟩ := T1.tab;obtain ⟨dt, ht, lt⟩ := id ot;refine ⟨_, rfl, _, _, _, _, _, rfl, ht, cT.cls, cT.n 2 rfl, cT.l lt 2 rfl, _, rfl, _, _, rfl, rfl, _, rfl, ?_⟩;refine ot.put cT 4 rfl fun H2 o2 e2 => ?_;refine ⟨_, rfl, _, _, rfl, rfl, _, rfl, ?_⟩;refine o2.put cT 5 rfl fun H3 o3 e3 => ?_;obtain ⟨d3, h3, l3⟩ := id o3;have ev : ((Eb s : Int) - 1) = ((Eb s - 1 : Nat) : Int) := by omega
    have o3 : Ob c.T tK H3 A.t (((tv A s st hd).set 4 (V.int ((s.now : Int) + (n : Int)))).set 5 (V.int ((Eb s : Int) - 1))) := o3;rw [ev] at o3;have T3 : Tab c A H3 { s with silence := some (s.now + n, Eb s - 1) } := by
     refine T1.top (st' := s.now + n) (hd' := Eb s - 1) (e2.trans e3) o3 ?_ rfl rfl rfl rfl rfl;show some _ = Hw s.now (s.now + n) (Eb s - 1);unfold Hw;rw [if_pos (by omega)]
    refine ⟨_, rfl, _, _, _, _, _, rfl, h3, cT.cls, cT.n 5 rfl, cT.l l3 5 rfl, ?_⟩;have z := D4 (v := ((Eb s - 1 : Nat) : Int)) q (by unfold Ae; simp [h1, h0]) T3 (k1.trans (Bj.else ot (e2.trans e3)));rw [← ev] at z;exact z
def Ka (r : Nat) (x : Bk) : Bool := !x.acked && decide (x.rank ≤ r)
def Iq (s : Al) (r : Nat) : List Bk := (Aj s).filter (Ka r)
theorem Vd (s : Al) {j k : Nat} (h : j ≠ k) : (Dd s k).kinds[j]? = s.kinds[j]? := by
 unfold Dd
 cases s.kinds[k]? with
 | none => rfl
 | some x =>
  simp only
  cases x.up with
  | none => rfl
  | some u =>
   simp only
   split
   ·rfl
   ·rw [Ff]; exact Bh h.symm
theorem Ml : ∀ (l : List Bk) (s : Al) (k : Nat), (∀ r ∈ l, r.kind ≠ k) → (l.foldl (fun t x => Dd t x.kind) s).kinds[k]? = s.kinds[k]?
 | [], _, _, _ => rfl
 | r :: l, s, k, h => by
  rw [Cu, Ml l _ k fun q hq => h q (Am _ hq), Vd s (h r A0).symm]
theorem Ja : A8 ["table", "numbers", "rank", "refusal", "calling", "kind"] ["table", "numbers"] (Ar s_ack_to) := by constructor<;>first|rfl|decide +kernel
theorem Abk (D : De K mg "ack_to" s_ack_to ["table", "numbers"]) (cT : CK K c.T tK) (cK : CK K c.K kK) (M : Tops mg) (DR : Fn P w K mg base "writing_refusal" 2 ["table", "in_range"] (G8 c)) (DW : Fn P w K mg base "within" 1 ["number", "least", "greatest"] G7) (DA : Fn P w K mg base "acknowledge" 6 ["table", "kind"] (Acn c)) (DK : Fn P w K mg base "raised_kinds" 1 ["table"] (Ie c)) :
  Fn P w K mg base "ack_to" 8 ["table", "numbers"] (Dt c (mk1 .ackTo)) := by
 refine D.fn fun f fd F => F.ok Ja (fun vs H Q E h => ?_) (fun cdv A outer s H vs Q E hr h => ?_)
 ·obtain ⟨A, s, nl, args, call, rfl, _⟩ := h;rfl
 ·obtain ⟨A, s, nl, args, call, rfl, T, W, hnl, nown, hmk, q⟩ := h;obtain ⟨r, rfl, rfl⟩ := E7 hmk;refine ⟨_, (Ab (Bf (i := 2) Ja.nd rfl (Aie rfl) (Du Cr (pv 1) Ax (fun _ _ => rfl)))
   (Ab (Bf (i := 3) Ja.nd rfl (A7 rfl) (Br DR (hr.mono (by decide)) rfl (Aa (pv 0) (Aa (Br DW (hr.mono (by decide)) rfl (Aa (pv 2) (Aa Ax (Aa Ax Ag)))) Ag))))
   (Ab (Ca (B6 Kb (pv 3) Ax (Cq _)) (Ai (A1 (Bl (Aa (pv 3) Ag)))) Bg)
   (Ab (M4 (i := 4) (own := [("kind", 5)]) (g := Jv 5) (tt := (tAnd (Ail (tB (K8 K (Fj 5) "acknowledged"))) (Adx (tOp (rI0 fun i j => V.bl (decide (i ≤ j))) (K8 K (Fj 5) "rank_now") (Fj 2))))) (te := Fj 5) rfl Ja.nd rfl rfl rfl (Es (Br DK (hr.mono (by decide)) rfl (Aa (pv 0) Ag))) (Gb (N := ["table", "numbers", "rank", "refusal", "calling", "kind"]) (sc := Ar s_ack_to) (by decide +kernel)) (fun _ _ _ _ _ => Dj (i := 5) Ja.nd rfl (A7 rfl))
    (fun _ _ _ _ _ => N4 (PW.pt (Acs (D7 (Ck (An (pv 5) rfl))) (Ye (B6 Aed (An (pv 5) rfl) (pv 2) (Cq _)))))) (fun _ _ _ _ _ => pv 5))
   (Ab (Ht PassesOwn.never rfl (Es (pv 4)) (Dj (i := 5) Ja.nd rfl (A7 rfl)) (Ai (Cv (Br DA (hr.mono (by decide)) rfl (Aa (pv 0) (Aa (pv 5) Ag))))))
   (Ai (A1 (Bl (Aa (C1 C2 (by rfl) M.no_len Cw (Aa (pv 4) Ag)) Ag))))))))), ?_⟩
  obtain ⟨st, hd, ot, si⟩ := T.tab;obtain ⟨dt, ht, lt⟩ := id ot;refine ⟨_, rfl, nl, _, _, _, rfl, rfl, SqL.of hnl, Ew (j := 0) rfl rfl, ?_⟩;refine ⟨_, rfl, _, rfl, r, 0, 3, rfl, A, s, _, rfl, T, ?_⟩;refine ⟨_, rfl, _, _, rfl, rfl, _, rfl, Cm (fun hn => ?_) (fun hn => ?_)⟩
  ·refine ⟨_, rfl, ?_⟩
   rcases F3 (of_decide_eq_true hn) with ⟨h1, h2⟩ | ⟨h1, h2, h3⟩
   ·rw [h2]; exact D4 q (by unfold Ae; simp [h1]) T Bj.refl
   ·rw [h3]; exact D4 q (by unfold Ae; simp [h1, h2]) T Bj.refl
  ·obtain ⟨h1, h2⟩ := Gz fun z => hn (decide_eq_true z);obtain ⟨hn1, hn2⟩ := Gp.mp h1;obtain ⟨r, rfl⟩ : ∃ m : Nat, r = (m : Int) := ⟨r.toNat, by omega⟩;refine ⟨_, rfl, A, s, rfl, T, W.lim, fun H1 l n1 nl1 hl => ?_⟩;have T1 := T.same n1;have rlen := Dq s;have lim := W.lim;refine ⟨l, rfl, ⟨_, SqL.of hl⟩, fun D nD => ?_⟩;refine Uz T1 (fun r hr => Kc hr) (by omega) hl nD (fun x => if Ka r x = true then some (V.ref (A.ks.getD x.kind 0)) else none) (fun x y u dk H' acc N _ hp hu _ erk eak _ n hD hz h1 h2 => ?_) ?_
   ·refine ⟨rfl, ?_⟩;refine ⟨_, rfl, _, _, _, _, _, rfl, hp, cK.cls, cK.n 12 rfl, cK.l Zw 12 rfl, _, rfl, Cm (fun ha => ?_) (fun ha => ?_)⟩
    ·have ha : x.acked = false := by rw [hu] at ha; rw [eak]; simpa [Iy] using ha
     refine ⟨_, rfl, _, _, _, _, _, rfl, hp, cK.cls, cK.n 11 rfl, cK.l Zw 11 rfl, _, rfl, _, _, rfl, rfl, _, rfl, Cm (fun hle => ?_) (fun hle => ?_)⟩
     ·have hle : x.rank ≤ r := by have := of_decide_eq_true hle; rw [hu] at this; have : ((u.rank : Nat) : Int) ≤ (r : Int) := this; omega
      refine ⟨_, rfl, acc, hD, hz, ?_⟩;exact h1 _ (by unfold Ka; rw [if_pos (by simp [ha, hle])])
     ·have hle : ¬ x.rank ≤ r := fun z => hle (decide_eq_true (by rw [hu]; show ((u.rank : Nat) : Int) ≤ (r : Int); omega));exact h2 (by unfold Ka; rw [if_neg (by simp [hle])])
    ·have ha : x.acked = true := by rw [hu] at ha; rw [eak]; simpa [Iy] using ha
     exact iteF (h2 (by unfold Ka; rw [if_neg (by simp [ha])]))
   ·have n6 := n1.trans (New.upd (o := .lst ((Aj s).filterMap fun x => if Ka r x = true then some (V.ref (A.ks.getD x.kind 0)) else none)) nD);have hD6 : upd H1 D (.lst ((Aj s).filterMap fun x => if Ka r x = true then some (V.ref (A.ks.getD x.kind 0)) else none)) D = some (.lst ((Aj s).filterMap fun x => if Ka r x = true then some (V.ref (A.ks.getD x.kind 0)) else none)) := Ao;generalize upd H1 D (.lst ((Aj s).filterMap fun x => if Ka r x = true then some (V.ref (A.ks.getD x.kind 0)) else none)) = H6 at n6 hD6;rw [Af2 (Ka r) (fun x => V.ref (A.ks.getD x.kind 0))] at hD6;have hD6 : H6 D = some (.lst ((Iq s r).map fun x => V.ref (A.ks.getD x.kind 0))) := hD6;have T6 := T.same n6;have own6 : D ∉ A.own := T1.apart nD;have hcu : ((Iq s r).map (·.kind)).Nodup := Aaq (Afk _ Aai) (Dl s).uniq;refine ⟨_, rfl, D, rfl, ⟨_, SqL.of hD6⟩, Jw (K := K) (xs := (Iq s r).map fun x => V.ref (A.ks.getD x.kind 0))
     (fun i σ H' => ∃ v5, σ = [some (.ref A.t), some (.ref nl), some (.int r), some (.int (K0 (Bi r 0 3) s)), some (.ref D), v5] ∧ Tab c A H' (((Iq s r).take i).foldl (fun t x => Dd t x.kind) s) ∧ Bj A H6 H')
     ⟨none, rfl, T6, Bj.refl⟩ (fun i σ H' _ ⟨_, _, _, k⟩ => SqL.of (k _ _ hD6 B4 own6)) ?_ ?_⟩
    ·rintro i y σ H' hi ⟨v5, rfl, T7, k7⟩;rw [Ap] at hi
     cases hrow : (Iq s r)[i]? with
     | none => rw [hrow] at hi; cases hi
     | some row =>
      rw [hrow] at hi;have ey : y = V.ref (A.ks.getD row.kind 0) := (Ah hi).symm;have hmem := As hrow;obtain ⟨hm1, hm2⟩ := Bn.mp hmem;have hro : Vf s row.kind = some row := ((Dl s).iff_ row).mp hm1;have hlt := (Hs hro).2;have hp : A.ks[row.kind]? = some (A.ks.getD row.kind 0) := by rw [O6, Aq (by rw [T.klen]; exact hlt)]; rfl
      have hx : s.kinds[row.kind]? = some s.kinds[row.kind] := Aq hlt;have hup : Eg s row.kind = s.kinds[row.kind].up := Fp hx;rw [C6, hup] at hro;obtain ⟨u, hu⟩ : ∃ u, s.kinds[row.kind].up = some u := by
       cases hu : s.kinds[row.kind].up with
       | none => rw [hu] at hro; cases hro
       | some u => exact ⟨u, rfl⟩
      rw [hu] at hro;have hua : u.acked = row.acked := by have := Ah hro; rw [← this]
      have ha : ¬ u.acked = true := by rw [hua]; unfold Ka at hm2; simp at hm2; simp [hm2.1]
      have hx7 : (((Iq s r).take i).foldl (fun t x => Dd t x.kind) s).kinds[row.kind]? = some s.kinds[row.kind] := by
       rw [Ml, hx];intro q hq e;obtain ⟨j, hj⟩ := B2 hq;rw [O5] at hj
       split at hj
       ·rename_i hji;have := Sf hcu (i := j) (j := i) (x := row.kind) (by rw [Ap, hj]; exact congrArg some e) (by rw [Ap, hrow]; rfl);omega
       ·cases hj
      have W7 : Well (((Iq s r).take i).foldl (fun t x => Dd t x.kind) s) := Q4 _ W;subst ey;refine ⟨_, rfl, _, rfl, A, _, row.kind, _, _, rfl, hp, hx7, T7, ⟨W7.pap, by rw [hu]; rfl⟩, fun H8 T8 k8 => ?_⟩;refine ⟨_, rfl, ?_, k7.trans k8⟩;rw [show (Iq s r).take (i + 1) = (Iq s r).take i ++ [row] by rw [Ce, hrow]; rfl, Eo, Cu, Ko];have ea : ∀ t : Al, t.kinds[row.kind]? = some s.kinds[row.kind] → Dd t row.kind = Bd (Au t row.kind (Jn s.kinds[row.kind] fun u => { u with acked := true, wait := 0 })) row.kind 3 (B3 s.kinds[row.kind].up) := fun t htk => by
       unfold Dd Jn;rw [htk];simp only [hu];rw [if_neg ha];rfl
      rw [ea _ hx7];exact T8
    ·rintro σ H7 ⟨v5, rfl, T7, k7⟩;rw [Ac, Cf] at T7;have hD7 := k7 _ _ hD6 B4 own6;refine ⟨_, rfl, _, _, rfl, .inl (SqL.of hD7), ?_⟩;rw [Ac];have el : Iq s r = (Aj s).filter fun x => !x.acked && decide (x.rank ≤ r) := rfl;rw [el] at T7 ⊢;exact D4 q (by unfold Ae; simp [h1, h2]) T7 ((Bj.new n6).trans k7)
end
theorem U4 {d : Addr} {o : Obj} {kvs : List (Key × V)} {g : TG} {tb : TS} {D : Aac} {σ : L2.St} {H : Hp} (Pv : Nat → L2.St → Hp → Prop) (h0 : Pv 0 σ H) (hl : ∀ i σ H, Pv i σ H → H d = some (.frz o (.dK kvs)))
  (hs : ∀ i k v σ H, kvs[i]? = some (k, v) → Pv i σ H → g (kV k) σ H fun σ2 H2 => tb { D with nx := Pv (i + 1), ct := Pv (i + 1), bk := D.nx } σ2 H2) (hd : ∀ σ H, Pv kvs.length σ H → D.nx σ H) :
  ∃ W : Nat → Nat → L2.St → Hp → Prop, (∃ m, W 0 m σ H) ∧ ∀ i m σ H, W i m σ H →
   ((Itk d o kvs).stop i H ∧ D.nx σ H) ∨ ((Itk d o kvs).go i H ∧ ∃ N : L2.St → Hp → Prop, (∀ σ' H', N σ' H' → ∃ m', m' < m ∧ W (i + 1) m' σ' H') ∧ ∀ x H', (Itk d o kvs).yld i H x H' → g x σ H' fun σ2 H2 => tb { D with nx := N, ct := N, bk := D.nx } σ2 H2) := by
 refine ⟨fun i m σ H => m = kvs.length - i ∧ i ≤ kvs.length ∧ Pv i σ H, ⟨kvs.length, by simp, B7 _, h0⟩, ?_⟩;rintro i m σ H ⟨rfl, hi, p⟩;have q := hl i σ H p
 by_cases hlt : i < kvs.length
 ·refine .inr ⟨⟨q, hlt⟩, Pv (i + 1), fun σ' H' p' => ⟨kvs.length - (i + 1), by omega, rfl, hlt, p'⟩, fun x H' y => ?_⟩;obtain ⟨e, k, v, hk, e2⟩ := y;subst e;subst e2;exact hs i k v σ _ hk p
 ·have e : i = kvs.length := by omega
  subst e;exact .inl ⟨⟨q, Ak _⟩, hd σ H p⟩
abbrev E8 (l : List Nat) : List (Key × V) := l.map fun a => (nk a, V.bl true)
theorem G1 (l : List Nat) (a : Nat) : (Fm (E8 l) (nk a)).isSome = decide (a ∈ l) := by
 induction l with
 | nil => rfl
 | cons b l ih =>
  show (Fm ((nk b, V.bl true) :: E8 l) (nk a)).isSome = _
  by_cases e : b = a
  ·rw [Ib (by rw [e])]; simp [e]
  ·rw [Ic (fun z => e (Mj.mp z)), ih];have : ¬ a = b := fun z => e z.symm;simp [this]
theorem Wi {l : List Nat} {a : Nat} (h : a ∉ l) : K9 (E8 l) (nk a) (V.bl true) = E8 (l ++ [a]) := by
 rw [M0]
 ·simp [E8]
 ·have := G1 l a;rw [decide_eq_false h] at this
  cases hv : Fm (E8 l) (nk a) with
  | none => rfl
  | some v => rw [hv] at this; cases this
theorem Qg : ∀ {ds : List (Nat × Addr × List Nat)} {q : Nat}, (∀ v, Fm (ds.map fun d => (nk d.1, V.ref d.2.1)) (nk q) = some v → ∃ d ∈ ds, d.1 = q ∧ v = V.ref d.2.1 ∧ pre (ds.map fun d => (d.1, d.2.2)) q = d.2.2) ∧ (Fm (ds.map fun d => (nk d.1, V.ref d.2.1)) (nk q) = none → pre (ds.map fun d => (d.1, d.2.2)) q = [])
 | [], q => ⟨fun v h => (by cases h), fun _ => rfl⟩
 | d :: ds, q => by
  obtain ⟨ih1, ih2⟩ := Qg (ds := ds) (q := q)
  by_cases e : d.1 = q
  ·have ep : pre ((d :: ds).map fun d => (d.1, d.2.2)) q = d.2.2 := by
    unfold pre;show (Ee q ((d.1, d.2.2) :: ds.map fun d => (d.1, d.2.2))).getD [] = d.2.2;rw [D6, show (q == d.1) = true by simp [e]];rfl
   constructor
   ·intro v hv;have hv : Fm ((nk d.1, V.ref d.2.1) :: ds.map fun d => (nk d.1, V.ref d.2.1)) (nk q) = some v := hv;rw [Ib (by rw [e])] at hv;exact ⟨d, A0, e, (Ah hv).symm, ep⟩
   ·intro hv;have hv : Fm ((nk d.1, V.ref d.2.1) :: ds.map fun d => (nk d.1, V.ref d.2.1)) (nk q) = none := hv;rw [Ib (by rw [e])] at hv
    cases hv
  ·have ep : pre ((d :: ds).map fun d => (d.1, d.2.2)) q = pre (ds.map fun d => (d.1, d.2.2)) q := by
    unfold pre;show (Ee q ((d.1, d.2.2) :: ds.map fun d => (d.1, d.2.2))).getD [] = _;rw [D6, show (q == d.1) = false by simp; exact fun z => e z.symm]
   have ev : Fm ((d :: ds).map fun d => (nk d.1, V.ref d.2.1)) (nk q) = Fm (ds.map fun d => (nk d.1, V.ref d.2.1)) (nk q) := Ic fun z => e (Mj.mp z);rw [ep, ev];exact ⟨fun v hv => let ⟨d', h1, h2⟩ := ih1 v hv; ⟨d', Am _ h1, h2⟩, ih2⟩
theorem Sg {s : Al} {k : Nat} {f : List Nat} {ns : List Int} (W : Well s) (hk : k < s.kinds.length) (nd : f.Nodup) (hm : ∀ a, a ∈ f ↔ Bef s.links a k) (hp : ns.Perm (f.map fun a : Nat => (a : Int))) (hs : ns.Pairwise (· ≤ ·)) : ns = (Bw s k).map fun a : Nat => (a : Int) := by
 have p2 : (Bw s k).Pairwise (· < ·) := by
  unfold Bw E5;exact List.Pairwise.filter _ List.pairwise_lt_range
 have m2 : ∀ a, a ∈ Bw s k ↔ a ∈ f := by
  intro a;unfold Bw E5;simp only [Bn, Cp, Bv, Jt W.lin W.lim hk W.circ, hm];exact ⟨fun h => h.2, fun h => ⟨h.left W.lin, h⟩⟩
 have nd2 : (Bw s k).Nodup := p2.imp fun h => Cj h;refine List.Perm.eq_of_pairwise (le := (· ≤ ·)) (fun a b _ _ h1 h2 => by omega) hs ?_ ?_
 ·exact (p2.map (fun a : Nat => (a : Int)) fun a b h => Int.ofNat_le.mpr (En h))
 ·exact hp.trans (((Aif nd nd2).mpr fun a => (m2 a).symm).map _)
section
variable {P : Program} {w : World} {K : Ad} {mg : Str → Option Value} {base : Heap} {C : Addr} {c : Cs}
def Mp (c : Cs) : Sp := fun vs H Q _ => ∃ (A : AD) (s : Al) (k : Nat), vs = [.ref A.ln, .int k] ∧ Tab c A H s ∧ Well s ∧ k < s.kinds.length ∧ ∀ H' p, New H H' → H p = none → H' p = some (.lst ((Bw s k).map fun a : Nat => V.int a)) → Q (.ref p) H'
theorem Ed : A8 ["self", "k", "found", "waiting", "later", "a"] ["self", "k"] (Ar s_Links_all_before) := by constructor<;>first|rfl|decide +kernel
theorem Sd (D : Dm K c.L "all_before" "Links.all_before" s_Links_all_before ["self", "k"]) (cL : CK K c.L lK) (M : Tops mg) : Me P w K mg base c.L "all_before" 1 ["self", "k"] (Mp c) := by
 refine D.me fun f fd F => F.ok Ed (fun vs H Q E h => ?_) (fun cdv A outer s H vs Q E hr h => ?_)
 ·obtain ⟨A, s, k, rfl, _⟩ := h;rfl
 ·obtain ⟨A, s, k, rfl, T, W, hk, q⟩ := h;have hu := U3 hr;refine ⟨_, (Ab (Bf (i := 2) Ed.nd rfl (A7 rfl) Js)
   (Ab (Bf (i := 3) Ed.nd rfl (A7 rfl) (Bl (Aa (pv 1) Ag)))
   (Ab (M3 PassesOwn.never (B6 Pr (C1 C2 (by rfl) M.no_len Cw (Aa (pv 3) Ag)) Ax (Cq _))
    (Ab (Bf (i := 4) Ed.nd rfl (A7 rfl) (Ag4 B1 PySem.F.slot_list_pop PySem.F.type_list_pop Ajl (pv 3)))
    (Ai (Yf (Ht PassesOwn.never rfl (Uh (Zd hu (An (pv 0) rfl) (pv 4) Js ⟨rfl, rfl, rfl, rfl⟩)) (Dj (i := 5) Ed.nd rfl (A7 rfl))
     (Ai (Ca (Acu (Wb hu (pv 5) (pv 2))) (Ab (Qw hu (pv 2) (pv 5) K1 rfl) (Ai (Cv (M6 B1 E2 E1 Jb (pv 3) (Aa (pv 5) Ag))))) Bg)))))))
   (Ai (A1 (C1 (Aa3 rfl) (by rfl) M.no_sorted boot_sorted (Aa (pv 2) Ag))))))), ?_⟩
  intro fa nfa;refine ⟨_, rfl, (by show 1 ≤ sizeLine; decide), fun wa nwa => ?_⟩;have fw : fa ≠ wa := fun e => by rw [← e, Ao] at nwa; cases nwa
  have nwa0 : H wa = none := by rw [Aw fw.symm] at nwa; exact nwa
  refine ⟨fun m σ H' => ∃ fnd wt v4 v5, σ = [some (.ref A.ln), some (.int k), some (.ref fa), some (.ref wa), v4, v5] ∧ Ws s.links s.kinds.length k fnd wt ∧ m = (s.kinds.length - fnd.length) + wt.length ∧ m ≤ s.kinds.length + 1 ∧ H' fa = some (.dK (E8 fnd)) ∧ H' wa = some (.lst (wt.map fun a : Nat => V.int a)) ∧ New H H',
   ⟨_, [], [k], none, none, rfl, Ws.start _ _ _, rfl, (by simp), ?_, Ao, (New.upd nfa).trans (New.upd nwa)⟩, ?_⟩
  ·rw [Aw fw, Ao]; rfl
  ·rintro m σ H1 ⟨fnd, wt, v4, v5, rfl, wk, rfl, hmm, hf1, hw1, n1⟩;refine ⟨_, rfl, _, _, rfl, .inl (SqL.of hw1), _, _, rfl, rfl, _, rfl, Cm (fun h0 => ?_) (fun h0 => ?_)⟩
   ·have h0 : 0 < wt.length := by have := of_decide_eq_true h0; rw [Ac] at this; omega
    obtain ⟨w', x, rfl⟩ : ∃ w' x, wt = w' ++ [x] := ⟨wt.dropLast, wt.getLast (by intro e; rw [e] at h0; simp at h0), (List.dropLast_concat_getLast _).symm⟩;refine ⟨fun σ' H' => ∃ m', m' < (s.kinds.length - fnd.length) + (w' ++ [x]).length ∧ ∃ fnd wt v4 v5, σ' = [some (.ref A.ln), some (.int k), some (.ref fa), some (.ref wa), v4, v5] ∧ Ws s.links s.kinds.length k fnd wt ∧ m' = (s.kinds.length - fnd.length) + wt.length ∧ m' ≤ s.kinds.length + 1 ∧ H' fa = some (.dK (E8 fnd)) ∧ H' wa = some (.lst (wt.map fun a : Nat => V.int a)) ∧ New H H', fun _ _ h => h, ?_⟩;refine ⟨_, rfl, .inl ⟨rfl, _, SqL.of hw1⟩, wa, _, V.int x, rfl, rfl, hw1, ?_, ?_⟩
    ·rw [Bb, A6]; simp
    ·have e2 : ((w' ++ [x]).map fun a : Nat => V.int a).dropLast = w'.map fun a : Nat => V.int a := by simp
     rw [e2];have hw2 : upd H1 wa (.lst (w'.map fun a : Nat => V.int a)) wa = some (.lst (w'.map fun a : Nat => V.int a)) := Ao;have hf2 : upd H1 wa (.lst (w'.map fun a : Nat => V.int a)) fa = some (.dK (E8 fnd)) := by rw [Aw fw]; exact hf1
     have n2 : New H (upd H1 wa (.lst (w'.map fun a : Nat => V.int a))) := fun b o h => by rw [Aw (Av h nwa0)]; exact n1 b o h
     generalize upd H1 wa (.lst (w'.map fun a : Nat => V.int a)) = H2 at hw2 hf2 n2;have T2 := T.same n2;obtain ⟨dl, hln, ll⟩ := id T2.ln;have hx0 := wk.wf x (by simp);have md := wk.mid;have hlen := wk.len
     cases hv : Fm (A.ds.map fun d => (nk d.1, V.ref d.2.1)) (nk x) with
     | some v =>
      obtain ⟨d, hd, hdq, rfl, hpre⟩ := Qg.1 v hv;have hin := T2.din d hd;have na : A.ln ≠ d.2.1 := (T2.ln.off hin D1).symm;have nr : A.dr ≠ d.2.1 := (T2.nin d hd).2.symm;have nf : fa ≠ d.2.1 := fun e => by have := T.din d hd; rw [← e, nfa] at this; cases this
      have nw : wa ≠ d.2.1 := fun e => by have := T.din d hd; rw [← e, nwa0] at this; cases this
      refine ⟨d.2.1, _, hin, G3, fun od => ?_⟩;have hln' : upd H2 d.2.1 (.frz od (.dK (E8 d.2.2))) A.ln = _ := (Aw na).trans hln;have hdr' : upd H2 d.2.1 (.frz od (.dK (E8 d.2.2))) A.dr = _ := (Aw nr).trans T2.dr;refine ⟨_, rfl, A.ln, c.L, _, _, _, rfl, hln', cL.cls, cL.n 0 rfl, cL.l ll 0 rfl, A.dr, rfl, .inl ⟨_, .inl hdr'⟩, _, rfl, fun p np => ?_⟩;have n3 : New (upd H2 d.2.1 (.frz od (.dK (E8 d.2.2)))) (upd (upd H2 d.2.1 (.frz od (.dK (E8 d.2.2)))) p (.dK [])) := New.upd np;have h3a := n3 _ _ (Ao (H := H2) (a := d.2.1) (o := .frz od (.dK (E8 d.2.2))));have h3f := n3 _ _ ((Aw nf).trans hf2);have h3w := n3 _ _ ((Aw nw).trans hw2);have h3d := n3 _ _ hdr';have h3o : ∀ b o, H b = some o → b ≠ d.2.1 → upd (upd H2 d.2.1 (.frz od (.dK (E8 d.2.2)))) p (.dK []) b = some o := fun b o h hb => n3 _ _ ((Aw hb).trans (n2 b o h));refine ⟨some (V.ref d.2.1), hv ▸ La.k (k := nk x) h3d, d.2.1, rfl, .inl ⟨od, E8 d.2.2, h3a, ?_⟩⟩;generalize upd (upd H2 d.2.1 (.frz od (.dK (E8 d.2.2)))) p (.dK []) = H3 at h3a h3f h3w h3o;refine U4 (fun i σ H' => ∃ fnd' wt' v5, σ = [some (.ref A.ln), some (.int k), some (.ref fa), some (.ref wa), some (.int x), v5] ∧ Mid s.links s.kinds.length k x (d.2.2.take i) fnd' wt' ∧ (x = k ∨ x ∈ fnd') ∧ (s.kinds.length - fnd'.length) + wt'.length = (s.kinds.length - fnd.length) + w'.length ∧
        H' d.2.1 = some (.frz od (.dK (E8 d.2.2))) ∧ H' fa = some (.dK (E8 fnd')) ∧ H' wa = some (.lst (wt'.map fun a : Nat => V.int a)) ∧ ∀ b o, H b = some o → b ≠ d.2.1 → H' b = some o)
       ⟨fnd, w', v5, rfl, md, hx0, rfl, h3a, h3f, h3w, h3o⟩ (fun i σ H' ⟨_, _, _, _, _, _, _, h, _⟩ => h) ?_ ?_
      ·rintro i key v σ H' hi ⟨fnd', wt', v5, rfl, md', hx', hms, ha', hf', hw', ho'⟩;rw [Ap] at hi
       cases hda : d.2.2[i]? with
       | none => rw [hda] at hi; cases hi
       | some a =>
        rw [hda] at hi;have ek : nk a = key := (Prod.mk.inj (Ah hi)).1;subst ek;have hlink : (a, x) ∈ s.links := (T.tells.iff_ a x).mp (by rw [hpre]; exact As hda);have mt := md'.turn W.lin hlink hx';have et : d.2.2.take (i + 1) = d.2.2.take i ++ [a] := by rw [Ce, hda]; rfl
        refine ⟨_, rfl, _, rfl, fa, _, rfl, La.k (k := nk a) hf', _, rfl, Cm (fun hni => ?_) (fun hni => ?_)⟩
        ·have hni : a ∉ fnd' := by rw [G1] at hni; simpa using hni
         rw [if_neg hni] at mt;have hl' : fnd'.length ≤ s.kinds.length := by
          have := C9 md'.nd (l₂ := Be s.kinds.length) fun b hb => Cp.mpr (md'.lt b hb)
          rwa [Ct] at this
         have hl'' : (fnd' ++ [a]).length ≤ s.kinds.length := by
          have := C9 mt.nd (l₂ := Be s.kinds.length) fun b hb => Cp.mpr (mt.lt b hb)
          rwa [Ct] at this
         have lim := W.lim;have hlw : wt'.length ≤ 100 := by rw [A6] at hmm; simp at hmm; omega
         refine ⟨_, rfl, _, rfl, fa, _, rfl, Aad.k (k := nk a) hf' (by rw [Ac]; exact C0 (by omega)), ?_⟩;rw [Wi hni];have hwn : upd H' fa (.dK (E8 (fnd' ++ [a]))) wa = some (.lst (wt'.map fun a : Nat => V.int a)) := by rw [Aw fw.symm]; exact hw'
         refine ⟨_, rfl, .inl ⟨rfl, _, SqL.of hwn⟩, _, rfl, wa, _, _, rfl, rfl, hwn, by rw [Ac]; exact C0 (by omega), ?_⟩;refine ⟨fnd' ++ [a], wt' ++ [a], _, rfl, by rw [et]; exact mt, hx'.imp id fun z => C4 _ z, by rw [A6, A6]; simp at hl'' ⊢; omega, ?_, ?_, ?_, fun b o h hb => ?_⟩
         ·rw [Aw nw.symm, Aw nf.symm]; exact ha'
         ·rw [Aw fw, Ao]
         ·rw [Ao, Bb]; rfl
         ·rw [Aw (Av h nwa0), Aw (Av h nfa)]; exact ho' b o h hb
        ·have hni : a ∈ fnd' := by rw [G1] at hni; simpa using hni
         rw [if_pos hni] at mt;exact ⟨fnd', wt', _, rfl, by rw [et]; exact mt, hx', hms, ha', hf', hw', ho'⟩
      ·rintro σ H' ⟨fnd', wt', v5, rfl, md', hx', hms, ha', hf', hw', ho'⟩;rw [Ac, Cf] at md';have wk' := md'.done fun p hp => by rw [← hpre]; exact (T.tells.iff_ p x).mpr hp
       refine ⟨ha', _, ?_, fnd', wt', _, _, rfl, wk', rfl, (by rw [hms]; rw [A6] at hmm; simp at hmm; omega), ?_, ?_, fun b o h => ?_⟩
       ·rw [hms, A6]; simp
       ·rw [Aw nf]; exact hf'
       ·rw [Aw nw]; exact hw'
       ·by_cases e : b = d.2.1
        ·rw [e, Ao];rw [e, T.din d hd] at h;exact h
        ·rw [Aw e]; exact ho' b o h e
     | none =>
      have hpre := Qg.2 hv;have na : A.ln ≠ wa := (T2.ln.off hw2 B4).symm;have nr : A.dr ≠ wa := Ng T2.dr hw2 (by intro z; cases z);refine ⟨wa, _, hw2, G3, fun od => ?_⟩;have hln' : upd H2 wa (.frz od (.lst (w'.map fun a : Nat => V.int a))) A.ln = _ := (Aw na).trans hln;have hdr' : upd H2 wa (.frz od (.lst (w'.map fun a : Nat => V.int a))) A.dr = _ := (Aw nr).trans T2.dr;refine ⟨_, rfl, A.ln, c.L, _, _, _, rfl, hln', cL.cls, cL.n 0 rfl, cL.l ll 0 rfl, A.dr, rfl, .inl ⟨_, .inl hdr'⟩, _, rfl, fun p np => ?_⟩;have pw : p ≠ wa := fun e => by rw [e, Ao] at np; cases np
      have np2 : H2 p = none := by rw [Aw pw] at np; exact np
      have n3 : New (upd H2 wa (.frz od (.lst (w'.map fun a : Nat => V.int a)))) (upd (upd H2 wa (.frz od (.lst (w'.map fun a : Nat => V.int a)))) p (.dK [])) := New.upd np;have h3d := n3 _ _ hdr';refine ⟨none, hv ▸ La.k (k := nk x) h3d, p, rfl, .inr ⟨[], Ao, fun o => ?_⟩⟩;refine U4 (fun i σ H' => σ = [some (.ref A.ln), some (.int k), some (.ref fa), some (.ref wa), some (.int x), v5] ∧ H' = upd (upd (upd H2 wa (.frz od (.lst (w'.map fun a : Nat => V.int a)))) p (.dK [])) p (.frz o (.dK []))) ⟨rfl, rfl⟩ (fun i σ H' ⟨_, e⟩ => by rw [e]; exact Ao) ?_ ?_
      ·rintro i key v σ H' hi _;simp at hi
      ·rintro σ H' ⟨rfl, rfl⟩;have wk' := md.done fun p hp => by rw [← (T.tells.iff_ p x), hpre] at hp; exact hp
       refine ⟨?_, _, ?_, fnd, w', _, _, rfl, wk', rfl, (by rw [A6] at hmm; simp at hmm; omega), ?_, ?_, fun b o h => ?_⟩
       ·rw [Aw pw.symm, Aw pw.symm, Ao]
       ·rw [A6]; simp
       ·rw [Aw fw, Aw (Av hf2 np2), Aw (Av hf2 np2), Aw fw]; exact hf2
       ·rw [Ao]
       ·have hb2 := n2 b o h;rw [Aw (Av h nwa0), Aw (Av hb2 np2), Aw (Av hb2 np2), Aw (Av h nwa0)];exact hb2
   ·have h0 : wt = [] := by
     have : ¬ (0 : Int) < (((wt.map fun a : Nat => V.int a).length : Nat) : Int) := fun z => h0 (decide_eq_true z);rw [Ac] at this;exact List.eq_nil_of_length_eq_zero (by omega)
    subst h0;have hm := wk.done;have hlen := wk.len;have lim := W.lim;refine ⟨_, rfl, fa, E8 fnd, fnd.map fun a : Nat => (a : Int), rfl, hf1, by rw [D5, D5]; rfl, by rw [Ac]; omega, fun ns' p hp hs np => ?_⟩;have e := Sg W hk wk.nd hm hp hs;have np0 : H p = none := by
     cases h : H p with
     | none => rfl
     | some o => rw [n1 p o h] at np; cases np
    refine q _ p (n1.trans (New.upd np)) np0 ?_;rw [Ao, e, D5];rfl
end
section
variable {c : Cs} {A : AD} {H H' : Hp} {s : Al}
theorem Tab.relink (T : Tab c A H s) {ds : List (Nat × Addr × List Nat)} {ln : List (Nat × Nat)} (hdr : H' A.dr = some (.dK (ds.map fun d => (nk d.1, V.ref d.2.1)))) (hin : ∀ d ∈ ds, H' d.2.1 = some (.dK (E8 d.2.2))) (nd : (ds.map (·.2.1)).Nodup)
  (tl : L7 (ds.map fun d => (d.1, d.2.2)) ln) (keep : ∀ b o, H b = some o → b ≠ A.dr → b ∉ A.ds.map (·.2.1) → H' b = some o) (nin : ∀ d ∈ ds, d.2.1 ≠ A.bd ∧ d.2.1 ≠ A.dr) : Tab c { A with ds := ds } H' { s with links := ln } := by
 obtain ⟨st, hd, t1, t2⟩ := T.tab;obtain ⟨es, e1, e2⟩ := T.el;obtain ⟨bs, b0, b1, b2⟩ := T.bd;have ni : ∀ {b : Addr} {o : HO}, H b = some o → (∀ kvs, o ≠ .dK kvs) → H' b = some o := fun {b o} h hn => keep b o h (fun e => by rw [e, T.dr] at h; exact hn _ (Ah h).symm) fun hm => by
  obtain ⟨d, hd, rfl⟩ := Ay.mp hm;rw [T.din d hd] at h;exact hn _ (Ah h).symm
 have ob : ∀ {C q : Addr} {ks : List Str} {vs : List V}, Ob C ks H q vs → Ob C ks H' q vs := fun ⟨dx, h, l⟩ => ⟨dx, ni h (fun _ z => nomatch z), l⟩;refine ⟨⟨st, hd, ob t1, t2⟩, ni T.kl (fun _ z => nomatch z), T.klen, fun i a x q1 q2 => ob (T.kin i a x q1 q2), T.knd, ob T.ln, hdr, hin, nd, tl, ob T.pp, ⟨es, ni e1 (fun _ z => nomatch z), Cd (fun _ _ q => ob q) e2⟩, ⟨bs, b0, ?_, Cd (fun _ _ q => ob q) b2⟩, T.nel, T.nbd, nin⟩;refine keep _ _ b1 T.nbd fun hm => ?_;obtain ⟨d, hd, e⟩ := Ay.mp hm;exact (T.nin d hd).1 e
theorem Xw.relink {ds : List (Nat × Addr × List Nat)} (keep : ∀ b o, H b = some o → b ≠ A.dr → b ∉ A.ds.map (·.2.1) → H' b = some o) (hds : ∀ d ∈ ds, d.2.1 ∈ A.ds.map (·.2.1) ∨ H d.2.1 = none) : Xw A H { A with ds := ds } H' := fun b o h n m => by
 have m1 : b ≠ A.dr := fun e => m (by rw [e]; simp [AD.own]);have m2 : b ∉ A.ds.map (·.2.1) := fun e => m (by unfold AD.own; simp only [Az]; exact .inr (.inr (.inr (.inr e))));refine ⟨keep b o h m1 m2, fun z => ?_⟩;unfold AD.own at z m;simp only [Az] at z m
 rcases z with z | z | z | z | z
 ·exact m (.inl z)
 ·exact m (.inr (.inl z))
 ·exact m (.inr (.inr (.inl z)))
 ·exact m (.inr (.inr (.inr (.inl z))))
 ·obtain ⟨d, hd, rfl⟩ := Ay.mp z
  rcases hds d hd with e | e
  ·exact m2 e
  ·rw [h] at e; cases e
end
section
variable {P : Program} {w : World} {K : Ad} {mg : Str → Option Value} {base : Heap} {C : Addr} {c : Cs}
def linked (s : Al) (a b : Nat) : Al × Int := if s.links.contains (a, b) = true then (s, 0) else ({ s with links := s.links ++ [(a, b)] }, 1)
def G6 (s : Al) (a b : Nat) : Al × Int := if s.links.contains (a, b) = true then ({ s with links := s.links.filter fun p => p != (a, b) }, 1) else (s, 0)
def Ys (c : Cs) (g : Al → Nat → Nat → Al × Int) : Sp := fun vs H Q _ => ∃ (A : AD) (s : Al) (a b : Nat), vs = [.ref A.ln, .int a, .int b] ∧ Tab c A H s ∧ Well s ∧ a < 32 ∧ b < 32 ∧ ∀ (A' : AD) H', Tab c A' H' (g s a b).1 → A'.t = A.t → Xw A H A' H' → Q (.int (g s a b).2) H'
theorem Abu {A : AD} {H : Hp} {s : Al} (T : Tab c A H s) (W : Well s) {d : Nat × Addr × List Nat} (hd : d ∈ A.ds) : d.2.2.length ≤ 32 := by
 have hm : (d.1, d.2.2) ∈ A.ds.map fun d => (d.1, d.2.2) := Ay.mpr ⟨d, hd, rfl⟩;have nd := T.tells.inner _ _ hm;have := C9 nd (l₂ := Be 32) fun a ha => by
  have h1 : (a, d.1) ∈ s.links := (T.tells.iff_ a d.1).mp (by rw [Pn T.tells.keys hm]; exact ha);exact Cp.mpr (Bs (W.lin _ _ h1).1 W.lim)
 rwa [Ct] at this
theorem N1 : A8 ["self", "a", "b", "earlier"] ["self", "a", "b"] (Ar s_Links_put) := by constructor<;>first|rfl|decide +kernel
theorem Aj9 (D : Dm K c.L "put" "Links.put" s_Links_put ["self", "a", "b"]) (cL : CK K c.L lK) (M : Tops mg) : Me P w K mg base c.L "put" 1 ["self", "a", "b"] (Ys c linked) := by
 refine D.me fun f fd F => F.ok N1 (fun vs H Q E h => ?_) (fun cdv A outer s H vs Q E hr h => ?_)
 ·obtain ⟨A, s, a, b, rfl, _⟩ := h;rfl
 ·obtain ⟨A, s, a, b, rfl, T, W, ha32, hb32, q⟩ := h;have hu := U3 hr;refine ⟨_, (Ab (Bf (i := 3) N1.nd rfl (A7 rfl) (Aec (An (pv 0) rfl) (pv 2) Js ⟨rfl, rfl, rfl, rfl⟩))
   (Ab (Ca (Acu (Ag6 hu (pv 1) (pv 3))) (Ai (A1 Ax)) Bg)
   (Ab (Qw hu (pv 3) (pv 1) K1 rfl)
   (Ai (A1 Ax))))), ?_⟩
  obtain ⟨dl, hln, ll⟩ := id T.ln;have tl := T.tells;have dlen : A.ds.length ≤ 32 := by have := tl.len; rwa [Ac] at this
  refine ⟨_, rfl, _, _, _, _, _, rfl, hln, cL.cls, cL.n 0 rfl, cL.l ll 0 rfl, A.dr, rfl, .inl ⟨_, .inl T.dr⟩, _, rfl, fun p np => ?_⟩;have n1 : New H (upd H p (.dK [])) := New.upd np;refine ⟨_, nk b, n1 _ _ T.dr, rfl, by rw [Ac]; exact C0 (by omega), fun v hv => ?_, fun hv => ?_⟩
  ·-- there is an entry
   obtain ⟨d, hd, hdb, rfl, hpre⟩ := Qg.1 v hv;obtain ⟨i, hi⟩ := B2 hd;have hin := n1 _ _ (T.din d hd);have n1s := n1;generalize upd H p (.dK []) = H1 at n1 hin;refine ⟨_, rfl, _, rfl, d.2.1, _, rfl, La.k (k := nk a) hin, _, rfl, Cm (fun h => ?_) (fun h => ?_)⟩
   ·have h : a ∈ d.2.2 := by rw [G1] at h; simpa using h
    have hl : s.links.contains (a, b) = true := by rw [Bv, ← tl.iff_, hpre]; exact h
    have e : linked s a b = (s, 0) := by unfold linked; rw [if_pos hl]
    have z := q A H1 (by rw [e]; exact T.same n1) rfl (Bj.new n1).kept;rw [e] at z;exact z
   ·have h : a ∉ d.2.2 := by rw [G1] at h; simpa using h
    have hl : ¬ s.links.contains (a, b) = true := by rw [Bv, ← tl.iff_, hpre]; exact h
    have e : linked s a b = ({ s with links := s.links ++ [(a, b)] }, 1) := by unfold linked; rw [if_neg hl]
    have il := Abu T W hd;refine ⟨_, rfl, _, rfl, d.2.1, _, rfl, Aad.k (k := nk a) hin (by rw [Ac]; exact C0 (by omega)), ?_⟩;rw [Wi h];have keep : ∀ b o, H b = some o → b ≠ A.dr → b ∉ A.ds.map (·.2.1) → upd H1 d.2.1 (.dK (E8 (d.2.2 ++ [a]))) b = some o := fun b o h _ hm => by
     rw [Aw fun z => hm (Ay.mpr ⟨d, hd, z.symm⟩)];exact n1 b o h
    have hset : ((A.ds.set i (d.1, d.2.1, d.2.2 ++ [a])).map fun d => (d.1, d.2.2)) = (A.ds.map fun d => (d.1, d.2.2)).set i (d.1, d.2.2 ++ [a]) := by rw [Vn]
    have hset2 : ((A.ds.set i (d.1, d.2.1, d.2.2 ++ [a])).map fun d => (nk d.1, V.ref d.2.1)) = A.ds.map fun d => (nk d.1, V.ref d.2.1) := by
     rw [Vn]
     apply Hn
     intro j
     by_cases e : j = i
     ·subst e; rw [Bm (by rw [Ac]; exact (Af.mp hi).1), Ap, hi]; rfl
     ·rw [Bh (fun z => e z.symm)]
    have hset3 : ((A.ds.set i (d.1, d.2.1, d.2.2 ++ [a])).map (·.2.1)) = A.ds.map (·.2.1) := by
     rw [Vn]
     apply Hn
     intro j
     by_cases e : j = i
     ·subst e; rw [Bm (by rw [Ac]; exact (Af.mp hi).1), Ap, hi]; rfl
     ·rw [Bh (fun z => e z.symm)]
    have memset : ∀ d' ∈ A.ds.set i (d.1, d.2.1, d.2.2 ++ [a]), (d' = (d.1, d.2.1, d.2.2 ++ [a])) ∨ (d' ∈ A.ds ∧ d'.2.1 ≠ d.2.1) := fun d' hd' => by
     obtain ⟨j, hj⟩ := B2 hd'
     by_cases e : j = i
     ·subst e;rw [Bm (Af.mp hi).1] at hj;exact .inl (Ah hj).symm
     ·rw [Bh (fun z => e z.symm)] at hj;refine .inr ⟨As hj, fun z => e (Sf T.dnd (x := d.2.1) ?_ ?_)⟩
      ·rw [Ap, hj]; exact congrArg some z
      ·rw [Ap, hi]; rfl
    have hmm : (d.1, d.2.2) ∈ A.ds.map fun d => (d.1, d.2.2) := Ay.mpr ⟨d, hd, rfl⟩;have T2 := T.relink (H' := upd H1 d.2.1 (.dK (E8 (d.2.2 ++ [a])))) (ds := A.ds.set i (d.1, d.2.1, d.2.2 ++ [a])) (ln := s.links ++ [(a, b)]) ?_ ?_ ?_ ?_ keep ?_
    ·have z := q { A with ds := A.ds.set i (d.1, d.2.1, d.2.2 ++ [a]) } _ (by rw [e]; exact T2) rfl (Xw.relink keep fun d' hd' => ?_)
     ·rw [e] at z;exact z
     ·rcases memset d' hd' with rfl | ⟨h1, _⟩
      ·exact .inl (Ay.mpr ⟨d, hd, rfl⟩)
      ·exact .inl (Ay.mpr ⟨d', h1, rfl⟩)
    ·rw [hset2, Aw (T.nin d hd).2.symm]; exact n1 _ _ T.dr
    ·intro d' hd'
     rcases memset d' hd' with rfl | ⟨h1, h2⟩
     ·exact Ao
     ·rw [Aw h2]; exact n1 _ _ (T.din d' h1)
    ·rw [hset3]; exact T.dnd
    ·rw [hset];refine tl.setAt (by rw [Ap, hi]; rfl) ?_ (fun x => ?_) fun x y hy => ?_
     ·exact Qy (tl.inner _ _ hmm) h
     ·rw [Ba, ← tl.iff_, hdb, hpre]; simp
     ·rw [Ba];have : ¬ y = b := by rw [← hdb]; exact hy
      simp [this]
    ·intro d' hd'
     rcases memset d' hd' with rfl | ⟨h1, _⟩
     ·exact T.nin d hd
     ·exact T.nin d' h1
  ·-- a new entry
   have hpre := Qg.2 hv;have hbk : b ∉ (A.ds.map fun d => (d.1, d.2.2)).map (·.1) := fun hm => by
    obtain ⟨pr, hpr, e⟩ := Ay.mp hm;obtain ⟨d, hd, e2⟩ := Ay.mp hpr;have : nk b ∈ (A.ds.map fun d => (nk d.1, V.ref d.2.1)).map (·.1) := Ay.mpr ⟨(nk d.1, V.ref d.2.1), Ay.mpr ⟨d, hd, rfl⟩, by rw [← e, ← e2]⟩;exact Ads hv this
   have hl : ¬ s.links.contains (a, b) = true := by rw [Bv, ← tl.iff_, hpre]; simp
   have e : linked s a b = ({ s with links := s.links ++ [(a, b)] }, 1) := by unfold linked; rw [if_neg hl]
   have pd : p ≠ A.dr := (Av T.dr np).symm;have hp2 : upd (upd H p (.dK [])) A.dr (.dK (K9 (A.ds.map fun d => (nk d.1, V.ref d.2.1)) (nk b) (.ref p))) p = some (.dK []) := by rw [Aw pd, Ao]
   refine ⟨_, rfl, _, rfl, p, _, rfl, La.k (k := nk a) hp2, _, rfl, Cm (fun h => by cases h) (fun h => ?_)⟩;refine ⟨_, rfl, _, rfl, p, _, rfl, Aad.k (k := nk a) hp2 (by show 0 < sizeLine; decide), ?_⟩;have keep : ∀ b' o, H b' = some o → b' ≠ A.dr → b' ∉ A.ds.map (·.2.1) → upd (upd (upd H p (.dK [])) A.dr (.dK (K9 (A.ds.map fun d => (nk d.1, V.ref d.2.1)) (nk b) (.ref p)))) p (.dK (K9 [] (nk a) (.bl true))) b' = some o := fun b' o h h1 _ => by
    rw [Aw (Av h np), Aw h1, Aw (Av h np)];exact h
   have T2 := T.relink (H' := upd (upd (upd H p (.dK [])) A.dr (.dK (K9 (A.ds.map fun d => (nk d.1, V.ref d.2.1)) (nk b) (.ref p)))) p (.dK (K9 [] (nk a) (.bl true)))) (ds := A.ds ++ [(b, p, [a])]) (ln := s.links ++ [(a, b)]) ?_ ?_ ?_ ?_ keep ?_
   ·have z := q { A with ds := A.ds ++ [(b, p, [a])] } _ (by rw [e]; exact T2) rfl (Xw.relink keep fun d' hd' => ?_)
    ·rw [e] at z;exact z
    ·rcases Ba.mp hd' with h1 | h1
     ·exact .inl (Ay.mpr ⟨d', h1, rfl⟩)
     ·rw [A9.mp h1]; exact .inr np
   ·rw [Aw pd.symm, Ao, M0 _ hv, Bb]; rfl
   ·intro d' hd'
    rcases Ba.mp hd' with h1 | h1
    ·have hd1 := T.din d' h1;rw [Aw (Av hd1 np), Aw (T.nin d' h1).2, Aw (Av hd1 np)]; exact hd1
    ·rw [A9.mp h1]; exact Ao
   ·rw [Bb];refine Qy T.dnd fun hm => ?_;obtain ⟨d', hd', e'⟩ := Ay.mp hm;have := T.din d' hd';rw [e', np] at this
    cases this
   ·rw [Bb]; exact tl.addNew hbk hb32
   ·intro d' hd'
    rcases Ba.mp hd' with h1 | h1
    ·exact T.nin d' h1
    ·rw [A9.mp h1];obtain ⟨bs, _, b1, _⟩ := T.bd;exact ⟨(Av b1 np).symm, pd⟩
end
theorem Aa2 (l : List Nat) (a : Nat) : Gk (E8 l) (nk a) = E8 (l.filter fun x => x != a) := by
 induction l with
 | nil => rfl
 | cons b l ih =>
  show Gk ((nk b, V.bl true) :: E8 l) (nk a) = _
  by_cases e : b = a
  ·rw [Q5 (by rw [e]), ih, Bu, if_neg (by simp [e])]
  ·rw [Nj (fun z => e (Mj.mp z)), ih, Bu, if_pos (by simp [e])];rfl
section
variable {P : Program} {w : World} {K : Ad} {mg : Str → Option Value} {base : Heap} {C : Addr} {c : Cs}
theorem Hr : A8 ["self", "a", "b", "earlier"] ["self", "a", "b"] (Ar s_Links_take_away) := by constructor<;>first|rfl|decide +kernel
theorem Uo (D : Dm K c.L "take_away" "Links.take_away" s_Links_take_away ["self", "a", "b"]) (cL : CK K c.L lK) (M : Tops mg) : Me P w K mg base c.L "take_away" 1 ["self", "a", "b"] (Ys c G6) := by
 refine D.me fun f fd F => F.ok Hr (fun vs H Q E h => ?_) (fun cdv A outer s H vs Q E hr h => ?_)
 ·obtain ⟨A, s, a, b, rfl, _⟩ := h;rfl
 ·obtain ⟨A, s, a, b, rfl, T, W, ha32, hb32, q⟩ := h;have hu := U3 hr;refine ⟨_, (Ab (Bf (i := 3) Hr.nd rfl (A7 rfl) (Zd hu (An (pv 0) rfl) (pv 2) Js ⟨rfl, rfl, rfl, rfl⟩))
   (Ab (Ca (Acu (Wb hu (pv 1) (pv 3))) (Ai (A1 Ax)) Bg)
   (Ab (Cv (Uj (pv 3) (pv 1) ⟨rfl, rfl, rfl, rfl⟩))
   (Ai (A1 Ax))))), ?_⟩
  obtain ⟨dl, hln, ll⟩ := id T.ln;have tl := T.tells;refine ⟨_, rfl, _, _, _, _, _, rfl, hln, cL.cls, cL.n 0 rfl, cL.l ll 0 rfl, A.dr, rfl, .inl ⟨_, .inl T.dr⟩, _, rfl, fun p np => ?_⟩;have n1 : New H (upd H p (.dK [])) := New.upd np;have hp1 : upd H p (.dK []) p = some (.dK []) := Ao;refine ⟨_, La.k (k := nk b) (n1 _ _ T.dr), ?_⟩;generalize upd H p (.dK []) = H1 at n1 hp1;have T1 := T.same n1;have none0 : ¬ s.links.contains (a, b) = true → Q (.int 0) H1 := fun hl => by
   have e : G6 s a b = (s, 0) := by unfold G6; rw [if_neg hl]
   have z := q A H1 (by rw [e]; exact T1) rfl (Bj.new n1).kept;rw [e] at z;exact z
  cases hv : Fm (A.ds.map fun d => (nk d.1, V.ref d.2.1)) (nk b) with
  | none =>
   have hpre := Qg.2 hv;refine ⟨_, rfl, _, rfl, p, _, rfl, La.k (k := nk a) hp1, _, rfl, Cm (fun h => ?_) (fun h => absurd rfl h)⟩;refine none0 ?_;rw [Bv, ← tl.iff_, hpre]; simp
  | some v =>
   obtain ⟨d, hd, hdb, rfl, hpre⟩ := Qg.1 v hv;obtain ⟨i, hi⟩ := B2 hd;have hin := T1.din d hd;refine ⟨_, rfl, _, rfl, d.2.1, _, rfl, La.k (k := nk a) hin, _, rfl, Cm (fun h => ?_) (fun h => ?_)⟩
   ·have h : a ∉ d.2.2 := by rw [G1] at h; simpa using h
    exact none0 (by rw [Bv, ← tl.iff_, hpre]; exact h)
   ·have h : a ∈ d.2.2 := by rw [G1] at h; simpa using h
    have hl : s.links.contains (a, b) = true := by rw [Bv, ← tl.iff_, hpre]; exact h
    have e : G6 s a b = ({ s with links := s.links.filter fun p => p != (a, b) }, 1) := by unfold G6; rw [if_pos hl]
    obtain ⟨v', hv'⟩ : ∃ v', Fm (E8 d.2.2) (nk a) = some v' := Cz.mp (by rw [G1]; exact decide_eq_true h);refine ⟨_, rfl, d.2.1, rfl, .inl ⟨_, .inl hin⟩, _, rfl, _, nk a, v', hin, rfl, hv', ?_⟩;rw [Aa2];have keep : ∀ b o, H b = some o → b ≠ A.dr → b ∉ A.ds.map (·.2.1) → upd H1 d.2.1 (.dK (E8 (d.2.2.filter fun x => x != a))) b = some o := fun b o h _ hm => by
     rw [Aw fun z => hm (Ay.mpr ⟨d, hd, z.symm⟩)];exact n1 b o h
    have same : ∀ {β : Type} (g : Nat × Addr × List Nat → β), g (d.1, d.2.1, d.2.2.filter fun x => x != a) = g d → (A.ds.set i (d.1, d.2.1, d.2.2.filter fun x => x != a)).map g = A.ds.map g := fun g hg => by
     rw [Vn]
     apply Hn
     intro j
     by_cases e : j = i
     ·subst e; rw [Bm (by rw [Ac]; exact (Af.mp hi).1), Ap, hi, hg]; rfl
     ·rw [Bh (fun z => e z.symm)]
    have memset : ∀ d' ∈ A.ds.set i (d.1, d.2.1, d.2.2.filter fun x => x != a), (d' = (d.1, d.2.1, d.2.2.filter fun x => x != a)) ∨ (d' ∈ A.ds ∧ d'.2.1 ≠ d.2.1) := fun d' hd' => by
     obtain ⟨j, hj⟩ := B2 hd'
     by_cases e : j = i
     ·subst e;rw [Bm (Af.mp hi).1] at hj;exact .inl (Ah hj).symm
     ·rw [Bh (fun z => e z.symm)] at hj;refine .inr ⟨As hj, fun z => e (Sf T.dnd (x := d.2.1) ?_ ?_)⟩
      ·rw [Ap, hj]; exact congrArg some z
      ·rw [Ap, hi]; rfl
    have hmm : (d.1, d.2.2) ∈ A.ds.map fun d => (d.1, d.2.2) := Ay.mpr ⟨d, hd, rfl⟩;have T2 := T.relink (H' := upd H1 d.2.1 (.dK (E8 (d.2.2.filter fun x => x != a)))) (ds := A.ds.set i (d.1, d.2.1, d.2.2.filter fun x => x != a)) (ln := s.links.filter fun p => p != (a, b)) ?_ ?_ ?_ ?_ keep ?_
    ·have z := q { A with ds := A.ds.set i (d.1, d.2.1, d.2.2.filter fun x => x != a) } _ (by rw [e]; exact T2) rfl (Xw.relink keep fun d' hd' => ?_)
     ·rw [e] at z;exact z
     ·rcases memset d' hd' with rfl | ⟨h1, _⟩
      ·exact .inl (Ay.mpr ⟨d, hd, rfl⟩)
      ·exact .inl (Ay.mpr ⟨d', h1, rfl⟩)
    ·rw [same (fun d => (nk d.1, V.ref d.2.1)) rfl, Aw (T.nin d hd).2.symm]; exact n1 _ _ T.dr
    ·intro d' hd'
     rcases memset d' hd' with rfl | ⟨h1, h2⟩
     ·exact Ao
     ·rw [Aw h2]; exact n1 _ _ (T.din d' h1)
    ·rw [same (·.2.1) rfl]; exact T.dnd
    ·rw [Vn];refine tl.setAt (by rw [Ap, hi]; rfl) ?_ (fun x => ?_) fun x y hy => ?_
     ·exact (tl.inner _ _ hmm).filter _
     ·rw [Bn, Bn, ← tl.iff_, hdb, hpre]; simp
     ·rw [Bn];have : ¬ y = b := by rw [← hdb]; exact hy
      simp [this]
    ·intro d' hd'
     rcases memset d' hd' with rfl | ⟨h1, _⟩
     ·exact T.nin d hd
     ·exact T.nin d' h1
theorem Pg {A A' : AD} {H H1 : Hp} {s s1 : Al} {call : Co} {Q : VK} {v : Int} (q : Ans c A H s call Q) (e : Ae s call = (s1, [v])) (T1 : Tab c A' H1 s1) (ht : A'.t = A.t) (k1 : Xw A H A' H1) : ([V.int v] : List V).length ≤ sizeLine ∧ ∀ p, H1 p = none → Q (.ref p) (upd H1 p (.lst [V.int v])) := by
 refine ⟨by show 1 ≤ sizeLine; decide, fun p np => ?_⟩;have n := New.upd (o := .lst [V.int v]) np;refine q _ A' p ?_ ht (fun b o h nn m => ⟨n _ _ (k1 b o h nn m).1, (k1 b o h nn m).2⟩) ?_ (T1.apart np) fun b o h nn m => Av (k1 b o h nn m).1 np
 ·rw [e]; exact T1.same n
 ·rw [e]; exact Ao
theorem Oh {s : Al} (W : Well s) {a b : Nat} (ha : a < s.kinds.length) : b ∈ Bw s a ↔ L8 s b a = true := by
 rw [Td W.lin W.lim ha W.circ];unfold Bw E5;simp only [Bn, Cp, Bv, Jt W.lin W.lim ha W.circ];exact ⟨fun h => h.2, fun h => ⟨h.left W.lin, h⟩⟩
theorem Zy (l : List Nat) (b : Nat) : inV (V.int b) (l.map fun a : Nat => V.int a) = decide (b ∈ l) := by
 induction l with
 | nil => rfl
 | cons a l ih =>
  rw [Bc];unfold inV at ih ⊢;rw [Gf, ih];show (((a : Int) == (b : Int)) || decide (b ∈ l)) = _
  by_cases e : a = b
  ·subst e; simp
  ·have : ((a : Int) == (b : Int)) = false := by simp; omega
   rw [this];have : ¬ b = a := fun z => e z.symm;simp [this]
theorem Yc : A8 ["table", "numbers", "a", "b"] ["table", "numbers"] (Ar s_link) := by constructor<;>first|rfl|decide +kernel
theorem Ahe (D : De K mg "link" s_link ["table", "numbers"]) (cT : CK K c.T tK) (cL : CK K c.L lK) (M : Tops mg) (DH : Fn P w K mg base "has_kind" 2 ["table", "k"] (Li c)) (DB : Me P w K mg base c.L "all_before" 1 ["self", "k"] (Mp c)) (DP : Me P w K mg base c.L "put" 1 ["self", "a", "b"] (Ys c linked)) :
  Fn P w K mg base "link" 8 ["table", "numbers"] (Dt c (mk2 .link)) := by
 refine D.fn fun f fd F => F.ok Yc (fun vs H Q E h => ?_) (fun cdv A outer s H vs Q E hr h => ?_)
 ·obtain ⟨A, s, nl, args, call, rfl, _⟩ := h;rfl
 ·obtain ⟨A, s, nl, args, call, rfl, T, W, hnl, nown, hmk, q⟩ := h;obtain ⟨a, b, rfl, rfl⟩ := P2 hmk;refine ⟨_, (Ab (Bf (i := 2) Yc.nd rfl (A7 rfl) (Du Cr (pv 1) Ax (fun _ _ => rfl)))
   (Ab (Bf (i := 3) Yc.nd rfl (A7 rfl) (Du Cr (pv 1) Ax (fun _ _ => rfl)))
   (Ab (Ca (PW.pt (Xd (D7 (Ck (Br DH (hr.mono (by decide)) rfl (Aa (pv 0) (Aa (pv 2) Ag))))) (Pl (D7 (Ck (Br DH (hr.mono (by decide)) rfl (Aa (pv 0) (Aa (pv 3) Ag)))))))) (Ai (A1 (Bl (Aa (C7 M.OUT_OF_RANGE rfl) Ag)))) Bg)
   (Ab (Ca (PW.pt (Xd (B6 M8 (pv 2) (pv 3) (Cq _)) (Pl (B6 Qx (pv 3) (Ry DB (An (pv 0) rfl) (hr.mono (by decide)) (Aa (pv 2) Ag)) (by rfl))))) (Ai (A1 (Bl (Aa (C7 M.LINK_IN_A_CIRCLE rfl) Ag)))) Bg)
   (Ai (A1 (Bl (Aa (Ry DP (An (pv 0) rfl) (hr.mono (by decide)) (Aa (pv 2) (Aa (pv 3) Ag))) Ag)))))))), ?_⟩
  obtain ⟨st, hd, ⟨dt, ht, lt⟩, si⟩ := T.tab;obtain ⟨dl, hln, ll⟩ := id T.ln;refine ⟨_, rfl, nl, _, _, _, rfl, rfl, SqL.of hnl, Ew (j := 0) rfl rfl, ?_⟩;refine ⟨_, rfl, nl, _, _, _, rfl, rfl, SqL.of hnl, Ew (j := 1) rfl rfl, ?_⟩;refine ⟨_, rfl, _, rfl, A, s, a, rfl, T, _, rfl, Cm (fun h1 => U2 ?_) (fun h1 => ?_)⟩
  ·have h1 : B0 s a = false := by simpa using h1
   exact D4 q (by unfold Ae; simp [h1]) T Bj.refl
  ·have h1 : B0 s a = true := by simpa using h1
   refine ⟨_, rfl, _, rfl, A, s, b, rfl, T, _, rfl, Cm (fun h2 => ?_) (fun h2 => ?_)⟩
   ·have h2 : B0 s b = false := by simpa using h2
    exact D4 q (by unfold Ae; simp [h2]) T Bj.refl
   ·have h2 : B0 s b = true := by simpa using h2
    obtain ⟨a0, a1⟩ := Ey.mp h1;obtain ⟨b0, b1⟩ := Ey.mp h2;obtain ⟨a, rfl⟩ : ∃ m : Nat, a = (m : Int) := ⟨a.toNat, by omega⟩;obtain ⟨b, rfl⟩ : ∃ m : Nat, b = (m : Int) := ⟨b.toNat, by omega⟩;have lim := W.lim;have stepE : ¬ a = b → Ae s (.link a b) = if L8 s b a = true then (s, [-4]) else ((linked s a b).1, [(linked s a b).2]) := fun hne => by
     unfold Ae linked;have : ¬ (a : Int) = (b : Int) := by omega
     simp only [h1, h2, this, D8]
     by_cases hb : L8 s b a = true
     ·simp [hb]
     ·simp only [hb]
      by_cases hc : (a, b) ∈ s.links
      ·simp [hc]
      ·simp [hc]
    refine ⟨_, rfl, _, rfl, rfl, _, rfl, Cm (fun he => U2 ?_) (fun he => ?_)⟩
    ·have he : (a : Int) = (b : Int) := V.int.inj (of_decide_eq_true he);exact D4 q (by unfold Ae; simp [h1, h2, he]) T Bj.refl
    ·have he : ¬ a = b := fun z => he (decide_eq_true (by rw [z]));refine ⟨_, rfl, _, rfl, _, _, _, _, _, rfl, ht, cT.cls, cT.n 1 rfl, cT.l lt 1 rfl, A.ln, dl, _, rfl, hln, Le (by decide +kernel), _, rfl, A, s, a, rfl, T, W, by omega, fun H1 p n1 np hp => ?_⟩;have T1 := T.same n1;refine ⟨p, _, rfl, .inl (SqL.of hp), rfl, by rw [List.all_map]; exact Fl.mpr fun _ _ => rfl, _, rfl, ?_⟩;show if inV (V.int b) ((Bw s a).map fun a : Nat => V.int a) = true then _ else _;rw [Zy];refine Cm (fun hb => ?_) (fun hb => ?_)
     ·have hb := (Oh W (by omega)).mp (of_decide_eq_true hb);exact D4 q (by rw [stepE he, if_pos hb]) T1 (Bj.new n1)
     ·have hb : ¬ L8 s b a = true := fun z => hb (decide_eq_true ((Oh W (by omega)).mpr z));obtain ⟨dl1, hln1, ll1⟩ := id T1.ln;refine ⟨_, rfl, _, _, _, _, _, rfl, n1 _ _ ht, cT.cls, cT.n 1 rfl, cT.l lt 1 rfl, A.ln, dl1, _, rfl, hln1, Le (by decide +kernel), _, rfl, _, rfl, A, s, a, b, rfl, T1, W, by omega, by omega, fun A' H2 T2 e2 k2 => ?_⟩;exact Pg q (by rw [stepE he, if_neg hb]) T2 e2 fun b o h nn m => k2 b o (n1 b o h) nn m
theorem Qt : A8 ["table", "numbers", "a", "b"] ["table", "numbers"] (Ar s_unlink) := by constructor<;>first|rfl|decide +kernel
theorem Abe (D : De K mg "unlink" s_unlink ["table", "numbers"]) (cT : CK K c.T tK) (cL : CK K c.L lK) (M : Tops mg) (DH : Fn P w K mg base "has_kind" 2 ["table", "k"] (Li c)) (DP : Me P w K mg base c.L "take_away" 1 ["self", "a", "b"] (Ys c G6)) :
  Fn P w K mg base "unlink" 8 ["table", "numbers"] (Dt c (mk2 .unlink)) := by
 refine D.fn fun f fd F => F.ok Qt (fun vs H Q E h => ?_) (fun cdv A outer s H vs Q E hr h => ?_)
 ·obtain ⟨A, s, nl, args, call, rfl, _⟩ := h;rfl
 ·obtain ⟨A, s, nl, args, call, rfl, T, W, hnl, nown, hmk, q⟩ := h;obtain ⟨a, b, rfl, rfl⟩ := P2 hmk;refine ⟨_, (Ab (Bf (i := 2) Qt.nd rfl (A7 rfl) (Du Cr (pv 1) Ax (fun _ _ => rfl)))
   (Ab (Bf (i := 3) Qt.nd rfl (A7 rfl) (Du Cr (pv 1) Ax (fun _ _ => rfl)))
   (Ab (Ca (PW.pt (Xd (D7 (Ck (Br DH (hr.mono (by decide)) rfl (Aa (pv 0) (Aa (pv 2) Ag))))) (Pl (D7 (Ck (Br DH (hr.mono (by decide)) rfl (Aa (pv 0) (Aa (pv 3) Ag)))))))) (Ai (A1 (Bl (Aa (C7 M.OUT_OF_RANGE rfl) Ag)))) Bg)
   (Ai (A1 (Bl (Aa (Ry DP (An (pv 0) rfl) (hr.mono (by decide)) (Aa (pv 2) (Aa (pv 3) Ag))) Ag))))))), ?_⟩
  obtain ⟨st, hd, ⟨dt, ht, lt⟩, si⟩ := T.tab;obtain ⟨dl, hln, ll⟩ := id T.ln;refine ⟨_, rfl, nl, _, _, _, rfl, rfl, SqL.of hnl, Ew (j := 0) rfl rfl, ?_⟩;refine ⟨_, rfl, nl, _, _, _, rfl, rfl, SqL.of hnl, Ew (j := 1) rfl rfl, ?_⟩;refine ⟨_, rfl, _, rfl, A, s, a, rfl, T, _, rfl, Cm (fun h1 => U2 ?_) (fun h1 => ?_)⟩
  ·have h1 : B0 s a = false := by simpa using h1
   exact D4 q (by unfold Ae; simp [h1]) T Bj.refl
  ·have h1 : B0 s a = true := by simpa using h1
   refine ⟨_, rfl, _, rfl, A, s, b, rfl, T, _, rfl, Cm (fun h2 => ?_) (fun h2 => ?_)⟩
   ·have h2 : B0 s b = false := by simpa using h2
    exact D4 q (by unfold Ae; simp [h2]) T Bj.refl
   ·have h2 : B0 s b = true := by simpa using h2
    obtain ⟨a0, a1⟩ := Ey.mp h1;obtain ⟨b0, b1⟩ := Ey.mp h2;obtain ⟨a, rfl⟩ : ∃ m : Nat, a = (m : Int) := ⟨a.toNat, by omega⟩;obtain ⟨b, rfl⟩ : ∃ m : Nat, b = (m : Int) := ⟨b.toNat, by omega⟩;have lim := W.lim;have stepE : Ae s (.unlink a b) = ((G6 s a b).1, [(G6 s a b).2]) := by
     unfold Ae G6;simp only [h1, h2, D8]
     by_cases hc : (a, b) ∈ s.links
     ·simp [hc]
     ·simp [hc]
    refine ⟨_, rfl, _, _, _, _, _, rfl, ht, cT.cls, cT.n 1 rfl, cT.l lt 1 rfl, A.ln, dl, _, rfl, hln, Le (by decide +kernel), _, rfl, _, rfl, A, s, a, b, rfl, T, W, by omega, by omega, fun A' H2 T2 e2 k2 => ?_⟩;exact Pg q stepE T2 e2 k2
end
theorem Z4 {p : Nat → Bool} {n i : Nat} (hi : i < n) (h1 : ∀ j, j < i → p j = false) (h2 : p i = true) : (Be n).find? p = some i := by
 rw [Afj];refine ⟨h2, i, by simpa using hi, by simp, fun j hj => ?_⟩;simp [h1 j hj]
theorem Abx {p : Nat → Bool} {n : Nat} (h : ∀ j, j < n → p j = false) : (Be n).find? p = none := by
 rw [Aap];intro j hj;rw [h j (Cp.mp hj)]
 decide
theorem Tab.list {c : Cs} {A : AD} {H : Hp} {s : Al} (T : Tab c A H s) {d : Addr} {xs ys : List V} (h : H d = some (.lst xs)) (hd : d ∉ A.own) : Tab c A (upd H d (.lst ys)) s := by
 obtain ⟨st, hd', t1, t2⟩ := T.tab;obtain ⟨es, e1, e2⟩ := T.el;obtain ⟨bs, b0, b1, b2⟩ := T.bd;have e : F6 d H (upd H d (.lst ys)) := F6.upd;have ni : ∀ {C q : Addr} {ks : List Str} {vs : List V}, Ob C ks H q vs → q ≠ d := fun o => (o.off h B4).symm;have nd : ∀ {q : Addr} {kvs : List (Key × V)}, H q = some (.dK kvs) → q ≠ d := fun hq => Ng hq h (by intro z; cases z);have nl : ∀ {q : Addr}, q ∈ A.own → q ≠ d := fun hq z => hd (by rw [← z]; exact hq);refine ⟨⟨st, hd', t1.else e (ni t1), t2⟩, ?_, T.klen, fun i a x q1 q2 => (T.kin i a x q1 q2).else e (ni (T.kin i a x q1 q2)), T.knd, T.ln.else e (ni T.ln), ?_, fun d hd => ?_, T.dnd, T.tells, T.pp.else e (ni T.pp),
  ⟨es, ?_, Cd (fun _ _ q => q.else e (ni q)) e2⟩, ⟨bs, b0, ?_, Cd (fun _ _ q => q.else e (ni q)) b2⟩, T.nel, T.nbd, T.nin⟩
 ·rw [e _ (nl (by simp [AD.own]))]; exact T.kl
 ·rw [e _ (nd T.dr)]; exact T.dr
 ·rw [e _ (nd (T.din d hd))]; exact T.din d hd
 ·rw [e _ (nl (by simp [AD.own]))]; exact e1
 ·rw [e _ (nd b1)]; exact b1
section
variable {P : Program} {w : World} {K : Ad} {mg : Str → Option Value} {base : Heap} {C : Addr} {c : Cs}
def Pa (c : Cs) : Sp := fun vs H Q _ => ∃ (A : AD) (s : Al) (k : Nat), vs = [.ref A.t, .int k] ∧ Tab c A H s ∧ Well s ∧ k < s.kinds.length ∧ ∀ H' p, New H H' → H p = none → H' p = some (.lst ((B9 s k).map fun a : Nat => V.int a)) → Q (.ref p) H'
theorem Gy : A8 ["table", "k", "a"] ["table", "k"] (Ar s_raised_before) := by constructor<;>first|rfl|decide +kernel
theorem Nb (D : De K mg "raised_before" s_raised_before ["table", "k"]) (cT : CK K c.T tK) (cK : CK K c.K kK) (cL : CK K c.L lK) (M : Tops mg) (DB : Me P w K mg base c.L "all_before" 1 ["self", "k"] (Mp c)) : Fn P w K mg base "raised_before" 2 ["table", "k"] (Pa c) := by
 refine D.fn fun f fd F => F.ok Gy (fun vs H Q E h => ?_) (fun cdv A outer s H vs Q E hr h => ?_)
 ·obtain ⟨A, s, k, rfl, _⟩ := h;rfl
 ·obtain ⟨A, s, k, rfl, T, W, hk, q⟩ := h;refine ⟨_, (Ai (A1 (Zc (own := [("a", 2)]) (g := Jv 2) (tt := tB (K8 K (tOp (rIxL K) (K8 K (Fj 0) "kinds") (Fj 2)) "raised")) (te := Fj 2) rfl Gy.nd (Es (Ry DB (An (pv 0) rfl) (hr.mono (by decide)) (Aa (pv 1) Ag))) (Gb (N := ["table", "k", "a"]) (sc := Ar s_raised_before) (by decide +kernel)) (fun _ _ _ _ _ => Dj (i := 2) Gy.nd rfl (A7 rfl))
   (fun _ _ _ _ _ => N4 (Ck (An (Du Cr (An (pv 0) rfl) (pv 2) (fun _ _ => rfl)) rfl))) (fun _ _ _ _ _ => pv 2)))), ?_⟩
  obtain ⟨st, hd, ⟨dt, ht, lt⟩, si⟩ := T.tab;obtain ⟨dl, hln, ll⟩ := id T.ln;refine ⟨_, rfl, _, _, _, _, _, rfl, ht, cT.cls, cT.n 1 rfl, cT.l lt 1 rfl, A.ln, dl, _, rfl, hln, Le (by decide +kernel), _, rfl, A, s, k, rfl, T, W, hk, fun H1 p n1 np hp => ?_⟩;have T1 := T.same n1;refine ⟨p, rfl, ⟨_, SqL.of hp⟩, fun D nD => ?_⟩;have lim := W.lim;have blen : (Bw s k).length ≤ 32 := by
   unfold Bw E5;refine Bz (Cc _ _) ?_;rw [Ct];exact lim
  refine Q0 (K := K) (xs := (Bw s k).map fun a : Nat => V.int a) (fun i H' => H' = upd H1 D (.lst ((((Bw s k).take i).filter fun a => Dv s a).map fun a : Nat => V.int a))) rfl (fun i H' _ e => ?_) (fun i y H' hi e => ?_) (fun H' e => ?_)
  ·subst e;exact SqL.of ((New.upd nD) _ _ hp)
  ·rw [Ap] at hi
   cases ha : (Bw s k)[i]? with
   | none => rw [ha] at hi; cases hi
   | some a =>
    rw [ha] at hi;have ey : y = V.int a := (Ah hi).symm;subst ey;have hal : a < s.kinds.length := by
     have := As ha;unfold Bw E5 at this;exact Cp.mp (Bn.mp this).1
    have hpa : A.ks[a]? = some (A.ks[a]'(by rw [T.klen]; exact hal)) := Aq _;have hxa : s.kinds[a]? = some s.kinds[a] := Aq hal;have et : (Bw s k).take (i + 1) = (Bw s k).take i ++ [a] := by rw [Ce, ha]; rfl
    have eup : Dv s a = s.kinds[a].up.isSome := by unfold Dv; rw [hxa]
    have n2 : New H1 H' := by rw [e]; exact New.upd nD
    have hD' : H' D = some (.lst ((((Bw s k).take i).filter fun a => Dv s a).map fun a : Nat => V.int a)) := by rw [e]; exact Ao
    have T2 := T1.same n2;obtain ⟨st2, hd2, ⟨dt2, ht2, lt2⟩, si2⟩ := T2.tab;obtain ⟨dk, hpk, lk⟩ := T2.kin a _ _ hpa hxa;refine ⟨rfl, ?_⟩;refine ⟨_, rfl, _, _, _, _, _, rfl, ht2, cT.cls, cT.n 0 rfl, cT.l lt2 0 rfl, _, rfl, A.kl, _, _, _, rfl, rfl, SqL.of T2.kl, Ew (j := a) rfl (by rw [Ap, hpa]; rfl), _, _, _, _, _, rfl, hpk, cK.cls, cK.n 10 rfl, cK.l lk 10 rfl, _, rfl, Cm (fun hup => ?_) (fun hup => ?_)⟩
    ·refine ⟨_, rfl, _, hD', ?_, ?_⟩
     ·rw [Ac];refine C0 (Bz (Cc _ _) ?_);rw [Cg];omega
     ·rw [e, Lg, et, O7, Bu, if_pos (by rw [eup]; exact hup), Bb];rfl
    ·rw [et, O7, Bu, if_neg (by rw [eup]; exact hup), List.filter_nil, B8];exact e
  ·subst e;rw [Ac, Cf];have nD0 : H D = none := by
    cases h : H D with
    | none => rfl
    | some o => rw [n1 D o h] at nD; cases nD
   exact q _ D (n1.trans (New.upd nD)) nD0 Ao
def Hm (s : Al) (k : Nat) : Int := (Ge s k).getD 0
def Qr (c : Cs) : Sp := fun vs H Q _ => ∃ (A : AD) (s : Al) (k : Nat) (p : Addr), vs = [.ref A.t, .ref p] ∧ A.ks[k]? = some p ∧ Tab c A H s ∧ Well s ∧ ∀ H', New H H' → Q (.int (Hm s k)) H'
theorem Mu : A8 ["table", "kind"] ["table", "kind"] (Ar s_reset_refusal) := by constructor<;>first|rfl|decide +kernel
theorem Na (D : De K mg "reset_refusal" s_reset_refusal ["table", "kind"]) (cK : CK K c.K kK) (M : Tops mg) (DH : Fn P w K mg base "raised_before" 2 ["table", "k"] (Pa c)) : Fn P w K mg base "reset_refusal" 3 ["table", "kind"] (Qr c) := by
 refine D.fn fun f fd F => F.ok Mu (fun vs H Q E h => ?_) (fun cdv A outer s H vs Q E hr h => ?_)
 ·obtain ⟨A, s, k, p, rfl, _⟩ := h;rfl
 ·obtain ⟨A, s, k, p, rfl, hk, T, W, q⟩ := h;obtain ⟨x, hx⟩ := T.kindAt hk;obtain ⟨d0, h0, l0⟩ := T.kin k p x hk hx;refine ⟨_, (Ab (Ca (D7 (Ck (An (pv 1) rfl))) (Ai (A1 (C7 M.NOT_RAISED rfl))) Bg)
   (Ab (Ca (Ck (An (pv 1) rfl)) (Ai (A1 (C7 M.CONDITION_HOLDS rfl))) Bg)
   (Ab (Ca (D7 (Ck (An (pv 1) rfl))) (Ai (A1 (C7 M.NOT_ACKNOWLEDGED rfl))) Bg)
   (Ab (Ca (B6 Pr (C1 C2 (by rfl) M.no_len Cw (Aa (Br DH (hr.mono (by decide)) rfl (Aa (pv 0) (Aa (An (pv 1) rfl) Ag))) Ag)) Ax (Cq _)) (Ai (A1 (C7 M.OTHERS_COME_BEFORE rfl))) Bg)
   (Ai (A1 Ax)))))), ?_⟩
  unfold Hm Ge at q;rw [hx] at q;simp only at q;refine ⟨_, rfl, _, _, _, _, _, rfl, h0, cK.cls, cK.n 10 rfl, cK.l l0 10 rfl, _, rfl, Cm (fun hup => ?_) (fun hup => ?_)⟩
  ·have hu : x.up = none := by
    cases hu : x.up with
    | none => rfl
    | some u => rw [hu] at hup; cases hup
   rw [hu] at q;exact q H fun _ _ h => h
  ·obtain ⟨u, hu⟩ : ∃ u, x.up = some u := by
    cases hu : x.up with
    | none => rw [hu] at hup; exact absurd rfl hup
    | some u => exact ⟨u, rfl⟩
   rw [hu] at q;simp only at q;refine ⟨_, rfl, _, _, _, _, _, rfl, h0, cK.cls, cK.n 7 rfl, cK.l l0 7 rfl, _, rfl, Cm (fun hc => ?_) (fun hc => ?_)⟩
   ·rw [if_pos hc] at q;exact q H fun _ _ h => h
   ·rw [if_neg hc] at q;refine ⟨_, rfl, _, _, _, _, _, rfl, h0, cK.cls, cK.n 12 rfl, cK.l l0 12 rfl, _, rfl, Cm (fun ha => ?_) (fun ha => ?_)⟩
    ·have ha : u.acked = false := by rw [hu] at ha; simpa [Iy] using ha
     rw [if_pos ha] at q;exact q H fun _ _ h => h
    ·have ha : ¬ u.acked = false := by rw [hu] at ha; simpa [Iy] using ha
     rw [if_neg ha] at q;have hkl : k < s.kinds.length := (Af.mp hx).1;refine ⟨_, rfl, _, rfl, _, _, _, _, _, rfl, h0, cK.cls, cK.n 0 rfl, cK.l l0 0 rfl, A, s, k, rfl, T, W, hkl, fun H1 p1 n1 np1 hp1 => ?_⟩;refine ⟨_, _, rfl, .inl (SqL.of hp1), _, _, rfl, rfl, _, rfl, Cm (fun hl => ?_) (fun hl => ?_)⟩
     ·have hl : B9 s k ≠ [] := by
       intro z;have := of_decide_eq_true hl;rw [z] at this;simp at this
      rw [if_pos hl] at q;exact q H1 n1
     ·have hl : ¬ B9 s k ≠ [] := by
       intro z;refine hl (decide_eq_true ?_);rw [Ac];have := List.length_pos_iff.mpr z;omega
      rw [if_neg hl] at q;exact q H1 n1
theorem Jq {s : Al} {k : Nat} {x : Bo} (hx : s.kinds[k]? = some x) : (Hm s k < 0 ∧ Ge s k = some (Hm s k)) ∨ (Hm s k = 0 ∧ Ge s k = none) := by
 unfold Hm Ge;rw [hx];simp only
 cases x.up with
 | none => exact .inl ⟨by show (-6 : Int) < 0; decide, rfl⟩
 | some u =>
  simp only
  split
  ·exact .inl ⟨by decide, rfl⟩
  ·split
   ·exact .inl ⟨by decide, rfl⟩
   ·split
    ·exact .inl ⟨by decide, rfl⟩
    ·exact .inr ⟨rfl, rfl⟩
def Aci (c : Cs) : Sp := fun vs H Q _ => ∃ (A : AD) (s : Al), vs = [.ref A.t] ∧ Tab c A H s ∧ Well s ∧ ∀ H', New H H' → (Gg s = none → Q .non H') ∧ (∀ k p, Gg s = some k → A.ks[k]? = some p → Q (.ref p) H')
theorem I0 : A8 ["table", "kind"] ["table"] (Ar s_next_to_reset) := by constructor<;>first|rfl|decide +kernel
theorem Nc (D : De K mg "next_to_reset" s_next_to_reset ["table"]) (cT : CK K c.T tK) (M : Tops mg) (DR : Fn P w K mg base "reset_refusal" 3 ["table", "kind"] (Qr c)) : Fn P w K mg base "next_to_reset" 4 ["table"] (Aci c) := by
 refine D.fn fun f fd F => F.ok I0 (fun vs H Q E h => ?_) (fun cdv A outer s H vs Q E hr h => ?_)
 ·obtain ⟨A, s, rfl, _⟩ := h;rfl
 ·obtain ⟨A, s, rfl, T, W, q⟩ := h;refine ⟨_, (Ab (Ht PassesOwn.never rfl (Es (An (pv 0) rfl)) (Dj (i := 1) I0.nd rfl (A7 rfl)) (Ai (Ca (B6 M8 (Br DR (hr.mono (by decide)) rfl (Aa (pv 0) (Aa (pv 1) Ag))) Ax (Cq _)) (Ai (A1 (pv 1))) Bg)))
   (Ai (A1 Pp))), ?_⟩
  obtain ⟨st, hd, ⟨dt, ht, lt⟩, si⟩ := T.tab;refine ⟨_, rfl, _, _, _, _, _, rfl, ht, cT.cls, cT.n 0 rfl, cT.l lt 0 rfl, A.kl, rfl, ⟨_, SqL.of T.kl⟩, Ad6 (K := K) (fun i σ H' => ∃ v1, σ = [some (.ref A.t), v1] ∧ New H H' ∧ ∀ j, j < i → (Ge s j).isNone = false) ⟨none, rfl, fun _ _ h => h, fun j hj => absurd hj (Vq _)⟩ (fun i σ H' ⟨_, _, n, _⟩ => n _ _ T.kl) ?_ ?_⟩
  ·rintro i p σ H' hp ⟨v1, rfl, n1, hb⟩;have T1 := T.same n1;obtain ⟨x, hx⟩ := T1.kindAt hp;have hil : i < s.kinds.length := (Af.mp hx).1;refine ⟨_, rfl, _, rfl, A, s, i, p, rfl, hp, T1, W, fun H2 n2 => ?_⟩;refine ⟨rfl, _, rfl, Cm (fun h0 => ?_) (fun h0 => ?_)⟩
   ·have h0 : Hm s i = 0 := V.int.inj (of_decide_eq_true h0);have hbn : Ge s i = none := by
     rcases Jq hx with ⟨h1, _⟩ | ⟨_, h2⟩
     ·omega
     ·exact h2
    refine ⟨_, rfl, ?_⟩;exact (q H2 (n1.trans n2)).2 i p (Z4 hil hb (by rw [hbn]; rfl)) hp
   ·have h0 : ¬ Hm s i = 0 := fun z => h0 (decide_eq_true (by rw [z]));refine ⟨_, rfl, n1.trans n2, fun j hj => ?_⟩
    by_cases e : j = i
    ·subst e
     rcases Jq hx with ⟨_, h2⟩ | ⟨h1, _⟩
     ·rw [h2]; rfl
     ·exact absurd h1 h0
    ·exact hb j (by omega)
  ·rintro σ H' ⟨v1, rfl, n1, hb⟩;rw [T.klen] at hb;exact (q H' n1).1 (Abx hb)
theorem Ph {s : Al} {k : Nat} {x : Bo} (hx : s.kinds[k]? = some x) (hu : x.up.isSome = true) : Fb s k = Dr (Bd (Au s k { x with up := none, held := 0 }) k 5 (B3 x.up)) := by
 obtain ⟨u, hu⟩ := Cz.mp hu;unfold Fb;rw [hx];simp only [hu];rfl
theorem Mv : A8 ["table", "numbers", "k", "refusal", "kind"] ["table", "numbers"] (Ar s_reset) := by constructor<;>first|rfl|decide +kernel
theorem Aeg (D : De K mg "reset" s_reset ["table", "numbers"]) (cT : CK K c.T tK) (M : Tops mg) (DR : Fn P w K mg base "writing_refusal" 2 ["table", "in_range"] (G8 c)) (DH : Fn P w K mg base "has_kind" 2 ["table", "k"] (Li c)) (DF : Fn P w K mg base "reset_refusal" 3 ["table", "kind"] (Qr c)) (DK : Fn P w K mg base "reset_kind" 6 ["table", "kind"] (O9 c)) :
  Fn P w K mg base "reset" 8 ["table", "numbers"] (Dt c (mk1 .reset)) := by
 refine D.fn fun f fd F => F.ok Mv (fun vs H Q E h => ?_) (fun cdv A outer s H vs Q E hr h => ?_)
 ·obtain ⟨A, s, nl, args, call, rfl, _⟩ := h;rfl
 ·obtain ⟨A, s, nl, args, call, rfl, T, W, hnl, nown, hmk, q⟩ := h;obtain ⟨k, rfl, rfl⟩ := E7 hmk;refine ⟨_, (Ab (Bf (i := 2) Mv.nd rfl (A7 rfl) (Du Cr (pv 1) Ax (fun _ _ => rfl)))
   (Ab (Bf (i := 3) Mv.nd rfl (A7 rfl) (Br DR (hr.mono (by decide)) rfl (Aa (pv 0) (Aa (Br DH (hr.mono (by decide)) rfl (Aa (pv 0) (Aa (pv 2) Ag))) Ag))))
   (Ab (Ca (B6 Kb (pv 3) Ax (Cq _)) (Ai (A1 (Bl (Aa (pv 3) Ag)))) Bg)
   (Ab (Bf (i := 4) Mv.nd rfl (A7 rfl) (Du Cr (An (pv 0) rfl) (pv 2) (fun _ _ => rfl)))
   (Ab (Bf (i := 3) Mv.nd rfl (A7 rfl) (Br DF (hr.mono (by decide)) rfl (Aa (pv 0) (Aa (pv 4) Ag))))
   (Ab (Ca (B6 Kb (pv 3) Ax (Cq _)) (Ai (A1 (Bl (Aa (pv 3) Ag)))) Bg)
   (Ab (Cv (Br DK (hr.mono (by decide)) rfl (Aa (pv 0) (Aa (pv 4) Ag))))
   (Ai (A1 (Bl (Aa Ax Ag))))))))))), ?_⟩
  obtain ⟨st, hd, ⟨dt, ht, lt⟩, si⟩ := T.tab;refine ⟨_, rfl, nl, _, _, _, rfl, rfl, SqL.of hnl, Ew (j := 0) rfl rfl, ?_⟩;refine ⟨_, rfl, _, rfl, _, rfl, A, s, k, rfl, T, A, s, _, rfl, T, ?_⟩;refine ⟨_, rfl, _, _, rfl, rfl, _, rfl, Cm (fun hn => ?_) (fun hn => ?_)⟩
  ·refine ⟨_, rfl, ?_⟩
   rcases F3 (of_decide_eq_true hn) with ⟨h1, h2⟩ | ⟨h1, h2, h3⟩
   ·rw [h2]; exact D4 q (by unfold Ae; simp [h1]) T Bj.refl
   ·rw [h3]; exact D4 q (by unfold Ae; simp [h1, h2]) T Bj.refl
  ·obtain ⟨h1, h2⟩ := Gz fun z => hn (decide_eq_true z);obtain ⟨p, hp, hk, hat⟩ := T.kindOf h1;obtain ⟨x, hx⟩ := T.kindAt hp;refine ⟨_, rfl, _, _, _, _, _, rfl, ht, cT.cls, cT.n 0 rfl, cT.l lt 0 rfl, _, rfl, A.kl, _, _, _, rfl, rfl, SqL.of T.kl, hat, ?_⟩;refine ⟨_, rfl, _, rfl, A, s, k.toNat, p, rfl, hp, T, W, fun H1 n1 => ?_⟩;have T1 := T.same n1;have k1 : Bj A H H1 := Bj.new n1;refine ⟨_, rfl, _, _, rfl, rfl, _, rfl, Cm (fun hf => ?_) (fun hf => ?_)⟩
   ·have hf := of_decide_eq_true hf;have hb : Ge s k.toNat = some (Hm s k.toNat) := by
     rcases Jq hx with ⟨_, h⟩ | ⟨h, _⟩
     ·exact h
     ·have hf : Hm s k.toNat < 0 := hf;omega
    refine ⟨_, rfl, ?_⟩;exact D4 q (by unfold Ae; simp [h1, h2, hb]) T1 k1
   ·have hf : ¬ Hm s k.toNat < 0 := fun z => hf (decide_eq_true z);have hb : Ge s k.toNat = none := by
     rcases Jq hx with ⟨h, _⟩ | ⟨_, h⟩
     ·exact absurd h hf
     ·exact h
    obtain ⟨x', u, hx', hu, _⟩ := L6 hb;have ex : x' = x := Ah (hx'.symm.trans hx);subst ex;refine ⟨_, rfl, _, rfl, A, s, k.toNat, p, x', rfl, hp, hx, T1, ⟨W.pap, W.lim⟩, fun H2 T2 k2 => ?_⟩;have T2 : Tab c A H2 (Fb s k.toNat) := by rw [Ph hx (by rw [hu]; rfl)]; exact T2
    exact D4 q (by unfold Ae; simp [h1, h2, hb]) T2 (k1.trans k2)
def mk0 (f : Co) : List Int → Option Co
 | [] => some f
 | _ => none
theorem Gu {f : Co} {args : List Int} {call : Co} (h : mk0 f args = some call) : args = [] ∧ call = f := by
 match args, h with
 | [], h => exact ⟨rfl, (Ah h).symm⟩
theorem Uc {s : Al} {k : Nat} : (Fb s k).kinds.length = s.kinds.length := by
 unfold Fb
 cases s.kinds[k]? with
 | none => rfl
 | some x =>
  simp only
  cases x.up with
  | none => rfl
  | some u => rw [Lp, Ff]; exact Dh
theorem Il : A8 ["table", "numbers", "done", "kind"] ["table", "numbers"] (Ar s_reset_all) := by constructor<;>first|rfl|decide +kernel
theorem Ur (D : De K mg "reset_all" s_reset_all ["table", "numbers"]) (cT : CK K c.T tK) (cK : CK K c.K kK) (M : Tops mg) (DE : Me P w K mg base c.P "at_end" 1 ["self"] (X9 c)) (DN : Fn P w K mg base "next_to_reset" 4 ["table"] (Aci c)) (DK : Fn P w K mg base "reset_kind" 6 ["table", "kind"] (O9 c)) :
  Fn P w K mg base "reset_all" 8 ["table", "numbers"] (Dt c (mk0 .resetAll)) := by
 refine D.fn fun f fd F => F.ok Il (fun vs H Q E h => ?_) (fun cdv A outer s H vs Q E hr h => ?_)
 ·obtain ⟨A, s, nl, args, call, rfl, _⟩ := h;rfl
 ·obtain ⟨A, s, nl, args, call, rfl, T, W, hnl, nown, hmk, q⟩ := h;obtain ⟨rfl, rfl⟩ := Gu hmk;refine ⟨_, (Ab (Ca (Ck (Zb DE (An (pv 0) rfl) (hr.mono (by decide)))) (Ai (A1 (Bl (Aa (C7 M.PAPER_AT_END rfl) Ag)))) Bg)
   (Ab (Bf (i := 2) Il.nd rfl (A7 rfl) (Bl Ag))
   (Ab (Bf (i := 3) Il.nd rfl (A7 rfl) (Br DN (hr.mono (by decide)) rfl (Aa (pv 0) Ag)))
   (Ab (M3 PassesOwn.never (B6 Ah9 (pv 3) Pp (Cq _)) (Ab (Cv (Br DK (hr.mono (by decide)) rfl (Aa (pv 0) (Aa (pv 3) Ag))))
   (Ab (Cv (M6 B1 E2 E1 Jb (pv 2) (Aa (An (pv 3) rfl) Ag)))
   (Ai (Bf (i := 3) Il.nd rfl (A7 rfl) (Br DN (hr.mono (by decide)) rfl (Aa (pv 0) Ag)))))))
   (Ai (A1 (Et Mi (Bl (Aa (C1 C2 (by rfl) M.no_len Cw (Aa (pv 2) Ag)) Ag)) (pv 2)))))))), ?_⟩
  obtain ⟨st, hd, ⟨dt, ht, lt⟩, si⟩ := T.tab;obtain ⟨dp, hp, lp⟩ := id T.pp;refine ⟨_, rfl, _, _, _, _, _, rfl, ht, cT.cls, cT.n 3 rfl, cT.l lt 3 rfl, A.pp, dp, _, rfl, hp, Le (by decide +kernel), A, s, rfl, T, _, rfl, Cm (fun hw => ?_) (fun hw => ?_)⟩
  ·exact D4 q (by unfold Ae; simp [hw]) T Bj.refl
  ·refine ⟨B7 _, fun dl ndl => ?_⟩;have n1 : New H (upd H dl (.lst [])) := New.upd ndl;have hdl : upd H dl (.lst []) dl = some (.lst []) := Ao;generalize upd H dl (.lst []) = H1 at n1 hdl;have T1 := T.same n1;have down : dl ∉ A.own := T.apart ndl
   let nextV : Al → V → Prop := fun t v => (Gg t = none ∧ v = .non) ∨ ∃ k p, Gg t = some k ∧ A.ks[k]? = some p ∧ v = .ref p
   let Inv0 : Nat → L2.St → Hp → Prop := fun m σ H' => ∃ (t : Al) (done : List Nat) (v : V), σ = [some (.ref A.t), some (.ref nl), some (.ref dl), some v] ∧ Tab c A H' t ∧ Well t ∧ t.kinds.length = s.kinds.length ∧ Gh s t done m ∧ done.length + m ≤ s.kinds.length ∧ H' dl = some (.lst (done.map fun a : Nat => V.int a)) ∧ Bj A H H' ∧ nextV t v
   have start : ∀ H2, New H1 H2 → Tab c A H2 s ∧ Bj A H H2 ∧ H2 dl = some (.lst (([] : List Nat).map fun a : Nat => V.int a)) := fun H2 n2 => ⟨T1.same n2, Bj.new (n1.trans n2), n2 _ _ hdl⟩;have loop : ∀ v H2, New H1 H2 → nextV s v → Aaj (Afr (Adx (tOp (fun x y H Q => y = .non ∧ Q (.bl (!decide (x = .non))) H) (Fj 3) (tC .non))) (Aaj (Adz (Yq (O9 c) [] E0 (Hv (Fj 0) (Hv (Fj 3) Nv))))
     (Aaj (Adz (tBM K "list" Acr (Fj 2) (Hv (K8 K (Fj 3) "number") Nv))) (tAsg (Yq (Aci c) [] E0 (Hv (Fj 0) Nv)) (Jv 3))))) (tRet (tOp rCat (tLst (Hv (tCB (fun xs H Q => ∃ p ys, xs = [.ref p] ∧ (SqL K H p ys ∨ SqT K H p ys) ∧ Q (.int ys.length) H) (Hv (Fj 2) Nv)) Nv)) (Fj 2)))
     { nx := fun _ H' => Q .non H', rt := Q } [some (.ref A.t), some (.ref nl), some (.ref dl), some v] H2 := fun v H2 n2 hv => by
    obtain ⟨T2, k2, hd2⟩ := start H2 n2;refine ⟨Inv0, ⟨s.kinds.length, s, [], v, rfl, T2, W, rfl, Gh.start s, (by simp), hd2, k2, hv⟩, ?_⟩;rintro m σ H3 ⟨t, done, v, rfl, T3, W3, hlen, R, hdm, hd3, k3, hv⟩;refine ⟨_, rfl, rfl, _, rfl, Cm (fun hne => ?_) (fun hne => ?_)⟩
    ·rcases hv with ⟨_, rfl⟩ | ⟨k, p, hnk, hpk, rfl⟩
     ·cases hne
     ·have hb := K6 hnk;obtain ⟨x, u, hx, hu, _⟩ := L6 hb;obtain ⟨m', hm', R'⟩ := R.turn hnk;refine ⟨fun σ' H' => ∃ m', m' < m ∧ Inv0 m' σ' H', fun _ _ h => h, ?_⟩;refine ⟨_, rfl, _, rfl, A, t, k, p, x, rfl, hpk, hx, T3, ⟨W3.pap, W3.lim⟩, fun H4 T4 k4 => ?_⟩;have T4 : Tab c A H4 (Fb t k) := by rw [Ph hx (by rw [hu]; rfl)]; exact T4
      have W4 := W3.resetOne k;have hd4 := k4 _ _ hd3 B4 down;obtain ⟨x4, hx4⟩ := T4.kindAt hpk;obtain ⟨dk, hk4, lk⟩ := T4.kin k p x4 hpk hx4;have lim := W.lim;refine ⟨_, rfl, .inl ⟨rfl, _, SqL.of hd4⟩, _, rfl, _, _, _, _, _, rfl, hk4, cK.cls, cK.n 0 rfl, cK.l lk 0 rfl, dl, _, _, rfl, rfl, hd4, by rw [Ac]; exact C0 (by omega), ?_⟩;have T5 : Tab c A (upd H4 dl (.lst ((done.map fun a : Nat => V.int a) ++ [V.int k]))) (Fb t k) := T4.list hd4 down;have hd5 : upd H4 dl (.lst ((done.map fun a : Nat => V.int a) ++ [V.int k])) dl = some (.lst ((done ++ [k]).map fun a : Nat => V.int a)) := by rw [Ao, Bb]; rfl
      have k5 : Bj A H (upd H4 dl (.lst ((done.map fun a : Nat => V.int a) ++ [V.int k]))) := fun b o h nn mm => by rw [Aw (Av h ndl)]; exact k4 b o (k3 b o h nn mm) nn mm
      generalize upd H4 dl (.lst ((done.map fun a : Nat => V.int a) ++ [V.int k])) = H5 at T5 hd5 k5;have fin : ∀ v H6, New H5 H6 → nextV (Fb t k) v → ∃ m', m' < m ∧ Inv0 m' [some (.ref A.t), some (.ref nl), some (.ref dl), some v] H6 := fun v H6 n6 hv => ⟨m', hm', _, done ++ [k], v, rfl, T5.same n6, W4, by rw [Uc]; exact hlen, R', by rw [A6]; simp; omega, n6 _ _ hd5, k5.trans (Bj.new n6), hv⟩;refine ⟨_, rfl, A, _, rfl, T5, W4, fun H6 n6 => ⟨fun hnn => ?_, fun k2 p2 hk2 hp2 => ?_⟩⟩
      ·exact fin .non H6 n6 (.inl ⟨hnn, rfl⟩)
      ·exact fin (.ref p2) H6 n6 (.inr ⟨k2, p2, hk2, hp2, rfl⟩)
    ·rcases hv with ⟨hnn, rfl⟩ | ⟨k, p, _, _, rfl⟩
     ·have e := R.done hnn;have lim := W.lim;have es : Ae s .resetAll = (t, (done.length : Int) :: done.map fun a : Nat => (a : Int)) := by
       unfold Ae;simp only [hw];rw [if_neg (by simp), e];rfl
      refine ⟨_, rfl, dl, _, rfl, .inl (SqL.of hd3), (by show 1 ≤ sizeLine; decide), fun l nl' => ?_⟩;have n4 : New H3 (upd H3 l (.lst [V.int (((done.map fun a : Nat => V.int a).length : Nat) : Int)])) := New.upd nl';refine ⟨_, rfl, l, dl, _, _, rfl, rfl, Ao, n4 _ _ hd3, by rw [Ac]; exact En (C0 (by show 1 + done.length ≤ 1000; omega)), fun p np => ?_⟩;have z := Y4 q es (T3.same n4) (k3.trans (Bj.new n4)) np;have el : (([V.int (((done.map fun a : Nat => V.int a).length : Nat) : Int)] : List V) ++ done.map fun a : Nat => V.int a) = (((done.length : Int) :: done.map fun a : Nat => (a : Int)).map V.int) := by
       rw [Ac, Bc, D5];rfl
      rw [el];exact z
     ·exact absurd rfl hne
   refine ⟨_, rfl, A, s, rfl, T1, W, fun H2 n2 => ⟨fun hnn => ?_, fun k p hk hp => ?_⟩⟩
   ·exact loop .non H2 n2 (.inl ⟨hnn, rfl⟩)
   ·exact loop (.ref p) H2 n2 (.inr ⟨k, p, hk, hp, rfl⟩)
end
def Ad5 (es : List DictEntry) : Bool := es.all fun e => match e.key with
 | .int k _ => e.hash == hashInt k
 | _ => false
def Eh (es : List DictEntry) (k : Int) : Option Value := (es.find? fun e => Value.isInt k e.key).map (·.val)
structure KD (K : Ad) (a : Addr) (es : List DictEntry) : Prop where
 lk : ∃ ep, K.lookup a = some ⟨.type "dict", none, .dict es.toArray ep, #[]⟩
 sys : (a == sysModules) = false
 keys : Ad5 es = true
theorem KD.map {K : Ad} {a : Addr} {es : List DictEntry} {h : Heap} (D : KD K a es) (kin : K.In h) (P : Program) (w : World) : h.MapOf (intKind P w) a (Eh es) := by
 obtain ⟨ep, lk⟩ := D.lk;refine ⟨_, es.toArray, ep, kin a _ lk, ⟨rfl, rfl, rfl⟩, rfl, fun e he => ?_, fun k => ?_⟩
 ·have h1 := Fl.mp D.keys e (by simpa using he)
  cases hk : e.key with
  | int k t =>
   rw [hk] at h1;exact ⟨k, by simp [PySem.intKind, Value.isInt], eq_of_beq h1⟩
  | _ => rw [hk] at h1; cases h1
 ·show (es.toArray.find? fun e => Value.isInt k e.key).map (·.val) = Eh es k;rw [List.find?_toArray];rfl
def rIxD (K : Ad) : R2 := fun x y H Q => ∃ a es i z u, x = .ref a ∧ y = .int i ∧ KD K a es ∧ Eh es i = some u ∧ Df z u ∧ Q z H
section
variable {X : Cx}
theorem Ad3 : IxR X (rIxD X.K) := by
 intro value slice pins s σ H x y v u Q I rx ry h hs;obtain ⟨a, es, i, z, e, rfl, rfl, D, he, rz, q⟩ := h
 cases rx
 obtain ⟨t, rfl⟩ := ry;have hm := D.map I.kIn X.prog X.w;refine subscriptTail_builtinR (x := e) hm.typeIs slot_dict_getitem.lookup ?_ hs;exact wpAny_getItem_of (Q := fun r s' => r = e ∧ EP X pins σ Q r s') (k := i) (by simp [PySem.intKind, Value.isInt]) hm he ⟨rfl, z, H, I.tok _, rz, q⟩
def Aip (X : Cx) (k : Nat) (tf : TE) (t : TA) : TE := fun σ H Q => tf σ H fun x H1 => ∃ f fd ps sp, x = .ref f ∧ Hu X.prog X.w X.K X.mg X.base CX0 k f fd ps sp ∧ Dx X.K (.ref f) = true ∧ Gw X.K fd ps [] ∧ t σ H1 fun vs H2 => sp vs H2 Q E0
theorem Ze {k : Nat} {o i e : Expr} {es : List Expr} {p pos : Pos} {tf : TE} {t : TA} (ho : PE X (.Subscript o i p) tf) (hr : Fx k X.A) (ha : PA X (e :: es) t)
  (he : starEach (e :: es) X.env = (false, eval e X.env) :: starEach es X.env := by rfl) (hpl : (backTo pos (starEach es X.env)).any (·.1) = false := by rfl) : PE X (.Call (.Subscript o i p) (e :: es) [] pos) (Aip X k tf t) := by
 intro pins s σ H Q I h;have hev : eval (.Call (.Subscript o i p) (e :: es) [] pos) X.env = (do callWith pos (← eval (.Subscript o i p) X.env) [] (backTo pos (starEach (e :: es) X.env)) (backToKw pos (keywordEach [] X.env))) := rfl;rw [hev];refine wpAny_bind (thn (ho pins s σ H _ I h) fun u s1 ⟨x, H1, I1, rx, f, fd, ps, sp, ex, F, hk, hb, q1⟩ => ?_);subst ex;obtain rfl : u = Value.ref f := rx;refine O4 (h₀ := X.base) I1.ok.mod.kin hk (thn (ha pos pins s1 σ H1 _ I1 q1) fun us s2 ⟨vs, H2, I2, r, q2⟩ => ⟨I2.kIn, ?_⟩) he hpl;exact Y1 (ds := []) (dvs := []) F hr hb .nil Zf I2 r (by rw [B8]; exact q2)
end
def But (p : Addr) (H H' : Hp) : Prop := ∀ b o, H b = some o → b ≠ p → H' b = some o
theorem But.trans {p : Addr} {H H1 H2 : Hp} (a : But p H H1) (b : But p H1 H2) : But p H H2 := fun c o h n => b c o (a c o h n) n
theorem F6.but {p : Addr} {H H1 : Hp} (e : F6 p H H1) : But p H H1 := fun b o h n => by rw [e b n]; exact h
theorem New.but {p : Addr} {H H1 : Hp} (e : New H H1) : But p H H1 := fun b o h _ => e b o h
theorem But.free {p : Addr} {H H1 : Hp} (e : But p H H1) {b : Addr} (h : H1 b = none) (n : b ≠ p) : H b = none := by
 cases q : H b with
 | none => rfl
 | some o => rw [e b o q n] at h; cases h
theorem Ob0.ne {C p b : Addr} {ks : List Str} {n : Nat} {H : Hp} {vs : List V} (o : Ob0 C ks n H p vs) (h : H b = none) : b ≠ p := by
 rintro rfl;obtain ⟨dx, e, _⟩ := o;rw [e] at h
 cases h
theorem P7 {H H2 : Hp} {x dx : Addr} {o : HO} (nx : H x = none) (nd : H dx = none) (e : But x (upd (upd H dx (.own x)) x o) H2) : New H H2 := fun b u h =>
 e b u (by rw [Aw (Av h nx), Aw (Av h nd)]; exact h) (Av h nx)
section
variable {P : Program} {w : World} {K : Ad} {mg : Str → Option Value} {base : Heap} {C : Addr} {c : Cs}
def Acj (C : Addr) : Sp := fun vs H Q _ => ∃ p, vs = [.ref p] ∧ Ob0 C lK 0 H p [] ∧ ∀ H' d, Ob C lK H' p [.ref d] → H' d = some (.dK []) → H d = none → But p H H' → Q .non H'
theorem Rv : A8 ["self"] ["self"] (Ar s_Links_init) := by constructor<;>first|rfl|decide +kernel
theorem Ael (D : Di K mg C "Links" "Links.__init__" s_Links_init ["self"]) (c : CK K C lK) : Ma P w K mg base C "Links" 1 ["self"] (Acj C) := by
 refine D.ma fun f fd F => F.ok Rv (fun vs H Q E h => ?_) (fun cdv A outer s H vs Q E hr h => ?_)
 ·obtain ⟨p, rfl, _⟩ := h;rfl
 ·obtain ⟨p, rfl, o, q⟩ := h;refine ⟨_, (Ai (Bq (pv 0) Js rfl)), ?_⟩;intro d hd;have n1 := New.upd (o := .dK []) hd;refine ⟨_, rfl, (o.new n1).put c rfl fun H1 o1 e1 => ?_⟩;exact q H1 d (o1.whole rfl) (by rw [e1 d (o.ne hd)]; exact Ao) hd (n1.but.trans e1.but)
def X5 (C : Addr) : Sp := fun vs H Q _ => ∃ p, vs = [.ref p] ∧ Ob0 C pK 0 H p [] ∧ ∀ H' l d, Ob C pK H' p [.int 0, .ref l, .ref d] → H' l = some (.lst []) → H' d = some (.dK []) → H l = none → H d = none → But p H H' → Q .non H'
theorem Ru : A8 ["self"] ["self"] (Ar s_Paper_init) := by constructor<;>first|rfl|decide +kernel
theorem Aek (D : Di K mg C "Paper" "Paper.__init__" s_Paper_init ["self"]) (c : CK K C pK) : Ma P w K mg base C "Paper" 1 ["self"] (X5 C) := by
 refine D.ma fun f fd F => F.ok Ru (fun vs H Q E h => ?_) (fun cdv A outer s H vs Q E hr h => ?_)
 ·obtain ⟨p, rfl, _⟩ := h;rfl
 ·obtain ⟨p, rfl, o, q⟩ := h;refine ⟨_, (Ab (Bq (pv 0) Ax rfl) (Ab (Bq (pv 0) (Bl Ag) rfl) (Ai (Bq (pv 0) Js rfl)))), ?_⟩;refine ⟨_, rfl, o.put c rfl fun H1 o1 e1 => ?_⟩;refine ⟨B7 _, fun l hl => ?_⟩;have n2 := New.upd (o := .lst []) hl;have np := o1.ne hl;refine ⟨_, rfl, (o1.new n2).put c rfl fun H3 o3 e3 => ?_⟩;intro d hd;have n4 := New.upd (o := .dK []) hd;have nd := o3.ne hd;refine ⟨_, rfl, (o3.new n4).put c rfl fun H5 o5 e5 => ?_⟩;have hl3 : H3 l = some (.lst []) := by rw [e3 l np]; exact Ao
  have b3 : But p H H3 := (e1.but.trans n2.but).trans e3.but;refine q H5 l d (o5.whole rfl) ?_ (by rw [e5 d nd]; exact Ao) (e1.but.free hl np) (b3.free hd nd) ((b3.trans n4.but).trans e5.but);rw [e5 l np];exact n4 _ _ hl3
def Acg (c : Cs) : Sp := fun vs H Q _ => ∃ t, vs = [.ref t] ∧ Ob0 c.T tK 0 H t [] ∧ ∀ H' A, Tab c A H' Bx → A.t = t → (∀ b ∈ A.own, H b = none) → But t H H' → Q .non H'
theorem L7.none : L7 [] [] := by
 refine ⟨?_, ?_, ?_, ?_⟩ <;> simp [pre]
theorem Rt : A8 ["self"] ["self"] (Ar s_Table_init) := by constructor<;>first|rfl|decide +kernel
theorem Aej (D : Di K mg c.T "Table" "Table.__init__" s_Table_init ["self"]) (cT : CK K c.T tK) (DL : Ma P w K mg base c.L "Links" 1 ["self"] (Acj c.L)) (DP : Ma P w K mg base c.P "Paper" 1 ["self"] (X5 c.P)) : Ma P w K mg base c.T "Table" 3 ["self"] (Acg c) := by
 refine D.ma fun f fd F => F.ok Rt (fun vs H Q E h => ?_) (fun cdv A outer s H vs Q E hr h => ?_)
 ·obtain ⟨p, rfl, _⟩ := h;rfl
 ·obtain ⟨t, rfl, o, q⟩ := h;refine ⟨_, (Ab (Bq (pv 0) (Bl Ag) rfl) (Ab (Bq (pv 0) (Za DL (hr.mono (by decide)) rfl) rfl) (Ab (Bq (pv 0) Ax rfl) (Ab (Bq (pv 0) (Za DP (hr.mono (by decide)) rfl) rfl)
   (Ab (Bq (pv 0) Ax rfl) (Ab (Bq (pv 0) Ax rfl) (Ai (Bq (pv 0) Pp rfl)))))))), ?_⟩
  refine ⟨B7 _, fun kl hkl => ?_⟩;have n1 := New.upd (o := .lst []) hkl;have nk := o.ne hkl;have gkl : upd H kl (.lst []) kl = some (.lst []) := Ao;generalize upd H kl (.lst []) = H1 at n1 gkl;refine ⟨_, rfl, (o.new n1).put cT rfl fun H2 o2 e2 => ?_⟩;have b2 : But t H H2 := n1.but.trans e2.but;have gkl2 : H2 kl = some (.lst []) := by rw [e2 kl nk]; exact gkl
  intro ln dx nx ndx nex;refine ⟨ln, rfl, Ob0.start, fun H3 dr ol hdr fdr b3 => ⟨rfl, ?_⟩⟩;have n3 : New H2 H3 := P7 nx ndx b3;have fdr2 : H2 dr = none := by
   by_cases e : dr = ln
   ·rw [e]; exact nx
   ·by_cases e' : dr = dx
    ·rw [e']; exact ndx
    ·rw [← fdr, Aw e, Aw e']
  have nln := o2.ne nx;have ndr := o2.ne fdr2;refine ⟨_, rfl, (o2.new n3).put cT rfl fun H4 o4 e4 => ?_⟩;refine ⟨_, rfl, o4.put cT rfl fun H5 o5 e5 => ?_⟩;have e45 := e4.trans e5;have b5 : But t H H5 := (b2.trans n3.but).trans e45.but;have gkl5 : H5 kl = some (.lst []) := by rw [e45 kl nk]; exact n3 _ _ gkl2
  have ol5 := ol.else e45 nln;have gdr5 : H5 dr = some (.dK []) := by rw [e45 dr ndr]; exact hdr
  intro pp dx' nx' ndx' nex';refine ⟨pp, rfl, Ob0.start, fun H6 el bd op hel hbd fel fbd b6 => ⟨rfl, ?_⟩⟩;have n6 : New H5 H6 := P7 nx' ndx' b6;have f5 : ∀ b, upd (upd H5 dx' (.own pp)) pp (.ins c.P dx' []) b = none → H5 b = none := fun b fb => by
   by_cases e : b = pp
   ·rw [e]; exact nx'
   ·by_cases e' : b = dx'
    ·rw [e']; exact ndx'
    ·rw [← fb, Aw e, Aw e']
  have fel5 := f5 _ fel;have fbd5 := f5 _ fbd;have npp := o5.ne nx';have nel := o5.ne fel5;have nbd := o5.ne fbd5;refine ⟨_, rfl, (o5.new n6).put cT rfl fun H7 o7 e7 => ?_⟩;refine ⟨_, rfl, o7.put cT rfl fun H8 o8 e8 => ?_⟩;refine ⟨_, rfl, o8.put cT rfl fun H9 o9 e9 => ?_⟩;refine ⟨_, rfl, o9.put cT rfl fun Ha oa ea => ?_⟩;have e7a := ((e7.trans e8).trans e9).trans ea;have b6' : But t H H6 := b5.trans n6.but;refine q Ha ⟨t, kl, ln, dr, pp, el, bd, [], []⟩ ⟨⟨0, 0, oa.whole rfl, rfl⟩, ?_, rfl, fun i a x h1 _ => by simp at h1, Kn, (ol5.new n6).else e7a nln, ?_, fun d hd => (by cases hd), Kn, L7.none, op.else e7a npp, ⟨[], ?_, .nil⟩, ⟨[], Kn, ?_, .nil⟩, ?_, ?_, fun d hd => (by cases hd)⟩ rfl ?_ (b6'.trans e7a.but)
  ·show Ha kl = some (.lst []);rw [e7a kl nk]; exact n6 _ _ gkl5
  ·show Ha dr = some (.dK []);rw [e7a dr ndr]; exact n6 _ _ gdr5
  ·show Ha el = some (.lst []);rw [e7a el nel]; exact hel
  ·show Ha bd = some (.dK []);rw [e7a bd nbd]; exact hbd
  ·show el ≠ kl;exact (Av gkl5 fel5).symm
  ·show bd ≠ dr;exact (Av gdr5 fbd5).symm
  ·intro b hb;have hb : b ∈ [kl, el, dr, bd] := hb;simp only [Az, List.not_mem_nil, or_false] at hb
   rcases hb with rfl | rfl | rfl | rfl
   ·exact hkl
   ·exact b5.free fel5 nel
   ·exact b2.free fdr2 ndr
   ·exact b5.free fbd5 nbd
def V1 (C : Addr) : Sp := fun vs H Q _ => ∃ (p : Addr) (n : Int) (nl : Addr) (r l d e a b : Int), vs = [.ref p, .int n, .ref nl] ∧ Ob0 C kK 0 H p [] ∧ H nl = some (.lst (([r, l, d, e, a, b] : List Int).map V.int)) ∧
 ∀ H', Ob C kK H' p [.int n, .int r, .int l, .int d, .int e, .int a, .int b, .bl false, .int 0, .int 0, .bl false, .int 0, .bl false, .int 0, .int 0] → F6 p H H' → Q .non H'
theorem Ub : A8 ["self", "number", "definition"] ["self", "number", "definition"] (Ar s_Kind_init) := by constructor<;>first|rfl|decide +kernel
theorem Ahf (D : Di K mg C "Kind" "Kind.__init__" s_Kind_init ["self", "number", "definition"]) (c : CK K C kK) : Ma P w K mg base C "Kind" 1 ["self", "number", "definition"] (V1 C) := by
 refine D.ma fun f fd F => F.ok Ub (fun vs H Q E h => ?_) (fun cdv A outer s H vs Q E hr h => ?_)
 ·obtain ⟨p, n, nl, r, l, d, e, a, b, rfl, _⟩ := h;rfl
 ·obtain ⟨p, n, nl, r, l, d, e, a, b, rfl, o, hn, q⟩ := h;have nn : nl ≠ p := by
   rintro rfl;obtain ⟨dx, z, _⟩ := o;rw [z] at hn
   cases hn
  refine ⟨_, (Ab (Bq (pv 0) (pv 1) rfl)
   (Ab (Bq (pv 0) (Du Cr (pv 2) Ax (fun _ _ => rfl)) rfl)
   (Ab (Bq (pv 0) (Du Cr (pv 2) Ax (fun _ _ => rfl)) rfl)
   (Ab (Bq (pv 0) (Du Cr (pv 2) Ax (fun _ _ => rfl)) rfl)
   (Ab (Bq (pv 0) (Du Cr (pv 2) Ax (fun _ _ => rfl)) rfl)
   (Ab (Bq (pv 0) (Du Cr (pv 2) Ax (fun _ _ => rfl)) rfl)
   (Ab (Bq (pv 0) (Du Cr (pv 2) Ax (fun _ _ => rfl)) rfl)
   (Ab (Bq (pv 0) K1 rfl)
   (Ab (Bq (pv 0) Ax rfl)
   (Ab (Bq (pv 0) Ax rfl)
   (Ab (Bq (pv 0) K1 rfl)
   (Ab (Bq (pv 0) Ax rfl)
   (Ab (Bq (pv 0) K1 rfl)
   (Ab (Bq (pv 0) Ax rfl)
   (Ai (Bq (pv 0) Ax rfl)))))))))))))))), ?_⟩
  have go : ∀ H', F6 p H H' → H' nl = some (.lst (([r, l, d, e, a, b] : List Int).map V.int)) := fun H' el => by rw [el nl nn]; exact hn
  refine ⟨_, rfl, _, rfl, o.put c rfl fun H1 o t => ?_⟩;refine ⟨_, rfl, nl, _, _, _, rfl, rfl, SqL.of (go _ t), Ew (j := 0) rfl rfl, _, rfl, o.put c rfl fun H2 o e2 => ?_⟩;have t := t.trans e2; clear e2;refine ⟨_, rfl, nl, _, _, _, rfl, rfl, SqL.of (go _ t), Ew (j := 1) rfl rfl, _, rfl, o.put c rfl fun H3 o e2 => ?_⟩;have t := t.trans e2; clear e2;refine ⟨_, rfl, nl, _, _, _, rfl, rfl, SqL.of (go _ t), Ew (j := 2) rfl rfl, _, rfl, o.put c rfl fun H4 o e2 => ?_⟩;have t := t.trans e2; clear e2;refine ⟨_, rfl, nl, _, _, _, rfl, rfl, SqL.of (go _ t), Ew (j := 3) rfl rfl, _, rfl, o.put c rfl fun H5 o e2 => ?_⟩;have t := t.trans e2; clear e2;refine ⟨_, rfl, nl, _, _, _, rfl, rfl, SqL.of (go _ t), Ew (j := 4) rfl rfl, _, rfl, o.put c rfl fun H6 o e2 => ?_⟩;have t := t.trans e2; clear e2;refine ⟨_, rfl, nl, _, _, _, rfl, rfl, SqL.of (go _ t), Ew (j := 5) rfl rfl, _, rfl, o.put c rfl fun H7 o e2 => ?_⟩;have t := t.trans e2; clear e2;refine ⟨_, rfl, o.put c rfl fun H8 o e2 => ?_⟩;have t := t.trans e2; clear e2;refine ⟨_, rfl, o.put c rfl fun H9 o e2 => ?_⟩;have t := t.trans e2; clear e2;refine ⟨_, rfl, o.put c rfl fun Ha o e2 => ?_⟩;have t := t.trans e2; clear e2;refine ⟨_, rfl, o.put c rfl fun Hb o e2 => ?_⟩;have t := t.trans e2; clear e2;refine ⟨_, rfl, o.put c rfl fun Hc o e2 => ?_⟩;have t := t.trans e2; clear e2;refine ⟨_, rfl, o.put c rfl fun Hd o e2 => ?_⟩;have t := t.trans e2; clear e2;refine ⟨_, rfl, o.put c rfl fun He o e2 => ?_⟩;have t := t.trans e2; clear e2;refine ⟨_, rfl, o.put c rfl fun Hf o e2 => ?_⟩;exact q Hf (o.whole rfl) (t.trans e2)
end
theorem New.none {H H' : Hp} {p : Addr} (n : New H H') (h : H' p = none) : H p = none := by
 cases e : H p with
 | none => rfl
 | some o => rw [n _ _ e] at h; cases h
theorem New.refl {H : Hp} : New H H := fun _ _ h => h
section
variable {c : Cs} {A : AD} {H H1 : Hp} {s : Al} {call : Co} {Q : VK}
theorem Ky {l : List Int} {p : Addr} (q : Ans c A H s call Q) (e : Ae s call = (s, l)) (T : Tab c A H s) (n : New H H1) (np : H p = none) (hp : H1 p = some (.lst (l.map V.int))) : Q (.ref p) H1 := by
 refine q H1 A p ?_ rfl (Bj.new n).kept ?_ (T.apart np) fun b o h _ _ => Av h np
 ·rw [e]; exact T.same n
 ·rw [e]; exact hp
end
theorem Aa8 (b : Bool) : V.int (if b then 1 else 0) = V.int (Vh b) := by cases b <;> rfl
section
variable {P : Program} {w : World} {K : Ad} {mg : Str → Option Value} {base : Heap} {C : Addr} {c : Cs}
theorem Rm : A8 ["table", "numbers"] ["table", "numbers"] (Ar s_tell_sound) := by constructor<;>first|rfl|decide +kernel
theorem R3 (D : De K mg "tell_sound" s_tell_sound ["table", "numbers"]) (DL : Fn P w K mg base "sound_level" 2 ["table"] (X8 c)) : Fn P w K mg base "tell_sound" 8 ["table", "numbers"] (Dt c (mk0 .sound)) := by
 refine D.fn fun f fd F => F.ok Rm (fun vs H Q E h => ?_) (fun cdv A outer s H vs Q E hr h => ?_)
 ·obtain ⟨A, s, nl, args, call, rfl, _⟩ := h;rfl
 ·obtain ⟨A, s, nl, args, call, rfl, T, W, hnl, nown, hmk, q⟩ := h;obtain ⟨rfl, rfl⟩ := Gu hmk;refine ⟨_, (Ai (A1 (Bl (Aa (Br DL (hr.mono (by decide)) rfl (Aa (pv 0) Ag)) Ag)))), ?_⟩;refine ⟨_, rfl, A, s, rfl, T, W.lim, fun H1 n1 => ?_⟩;exact D4 q rfl (T.same n1) (Bj.new n1)
theorem Ro : A8 ["table", "numbers"] ["table", "numbers"] (Ar s_tell_first) := by constructor<;>first|rfl|decide +kernel
theorem R6 (D : De K mg "tell_first" s_tell_first ["table", "numbers"]) (cT : CK K c.T tK) : Fn P w K mg base "tell_first" 8 ["table", "numbers"] (Dt c (mk0 .first)) := by
 refine D.fn fun f fd F => F.ok Ro (fun vs H Q E h => ?_) (fun cdv A outer s H vs Q E hr h => ?_)
 ·obtain ⟨A, s, nl, args, call, rfl, _⟩ := h;rfl
 ·obtain ⟨A, s, nl, args, call, rfl, T, W, hnl, nown, hmk, q⟩ := h;obtain ⟨rfl, rfl⟩ := Gu hmk;refine ⟨_, (Ai (A1 (Bl (Aa (Pq (B6 Ag7 (An (pv 0) rfl) Pp (Cq _)) Ax (Et J9 (An (pv 0) rfl) Ax)) Ag)))), ?_⟩;obtain ⟨st, hd, ⟨dt, ht, lt⟩, si⟩ := T.tab;refine ⟨_, rfl, _, _, _, _, _, rfl, ht, cT.cls, cT.n 6 rfl, cT.l lt 6 rfl, rfl, _, rfl, Cm (fun hn => ?_) (fun hn => ?_)⟩
  ·have hn : s.first = none := by
    have := of_decide_eq_true hn
    cases h : s.first with
    | none => rfl
    | some j => rw [h] at this; cases this
   exact D4 q (by unfold Ae; rw [hn]) T Bj.refl
  ·obtain ⟨k, hk⟩ : ∃ k, s.first = some k := by
    cases h : s.first with
    | none => exact absurd (decide_eq_true (by rw [h]; rfl)) hn
    | some j => exact ⟨j, rfl⟩
   refine ⟨_, rfl, _, _, _, _, _, rfl, ht, cT.cls, cT.n 6 rfl, cT.l lt 6 rfl, (k : Int), 1, by rw [hk]; rfl, rfl, ?_⟩;exact D4 q (by unfold Ae; rw [hk]) T Bj.refl
theorem Nz : A8 ["table", "numbers", "told"] ["table", "numbers"] (Ar s_tell_time) := by constructor<;>first|rfl|decide +kernel
theorem Uk (D : De K mg "tell_time" s_tell_time ["table", "numbers"]) (cT : CK K c.T tK) (cP : CK K c.P pK) (DS : Fn P w K mg base "is_silent" 1 ["table"] (Tp c)) : Fn P w K mg base "tell_time" 8 ["table", "numbers"] (Dt c (mk0 .time)) := by
 refine D.fn fun f fd F => F.ok Nz (fun vs H Q E h => ?_) (fun cdv A outer s H vs Q E hr h => ?_)
 ·obtain ⟨A, s, nl, args, call, rfl, _⟩ := h;rfl
 ·obtain ⟨A, s, nl, args, call, rfl, T, W, hnl, nown, hmk, q⟩ := h;obtain ⟨rfl, rfl⟩ := Gu hmk;refine ⟨_, (Ab (Bf (i := 2) Nz.nd rfl (A7 rfl) (Bl (Aa (An (pv 0) rfl) (Aa (An (An (pv 0) rfl) rfl) Ag))))
   (Ab (Ca (Ck (Br DS (hr.mono (by decide)) rfl (Aa (pv 0) Ag))) (Ai (A1 (Et Mi (pv 2) (Bl (Aa (Et K2 (An (pv 0) rfl) (An (pv 0) rfl)) (Aa (An (pv 0) rfl) Ag)))))) Bg)
   (Ai (A1 (Et Mi (pv 2) (Bl (Aa Ax (Aa Ax Ag)))))))), ?_⟩
  obtain ⟨st, hd, ⟨dt, ht, lt⟩, si⟩ := T.tab;obtain ⟨dp, hp, lp⟩ := id T.pp;refine ⟨_, rfl, _, _, _, _, _, rfl, ht, cT.cls, cT.n 2 rfl, cT.l lt 2 rfl, _, rfl, _, _, _, _, _, rfl, ht, cT.cls, cT.n 3 rfl, cT.l lt 3 rfl, _, _, _, _, _, rfl, hp, cP.cls, cP.n 0 rfl, cP.l lp 0 rfl, (by show 2 ≤ sizeLine; decide), fun L nL => ?_⟩;have n1 : New H (upd H L (.lst [V.int s.now, V.int s.seq])) := New.upd nL;have hL : upd H L (.lst [V.int s.now, V.int s.seq]) L = some (.lst [V.int s.now, V.int s.seq]) := Ao;show Aaj _ _ _ _ (upd H L (.lst [V.int s.now, V.int s.seq]));generalize upd H L (.lst [V.int s.now, V.int s.seq]) = H1 at n1 hL;have T1 := T.same n1;have ht1 := n1 _ _ ht;refine ⟨_, rfl, A, s, rfl, T1, _, rfl, Cm (fun hs => ?_) (fun hs => ?_)⟩
  ·have hlt : s.now < st := by
    rw [si] at hs;unfold Hw at hs
    by_cases h : s.now < st
    ·exact h
    ·rw [if_neg h] at hs; cases hs
   have es : s.silence = some (st, hd) := by rw [si]; unfold Hw; rw [if_pos hlt]
   refine ⟨_, rfl, _, rfl, _, _, _, _, _, rfl, ht1, cT.cls, cT.n 4 rfl, cT.l lt 4 rfl, _, rfl, _, _, _, _, _, rfl, ht1, cT.cls, cT.n 2 rfl, cT.l lt 2 rfl, _, _, rfl, rfl, _, rfl, _, _, _, _, _, rfl, ht1, cT.cls, cT.n 5 rfl, cT.l lt 5 rfl, (by show 2 ≤ sizeLine; decide), fun M nM => ?_⟩;have n2 := n1.trans (New.upd (o := .lst [V.int ((st : Int) - (s.now : Int)), V.int hd]) nM);refine ⟨L, M, _, _, rfl, rfl, (New.upd nM) _ _ hL, Ao, (by show 4 ≤ sizeLine; decide), fun p np => ?_⟩;refine Ky q (l := [(s.now : Int), (s.seq : Int)] ++ [((st - s.now : Nat) : Int), (hd : Int)]) (by unfold Ae; rw [es]) T (n2.trans (New.upd np)) (n2.none np) ?_;have e : ((st : Int) - (s.now : Int)) = ((st - s.now : Nat) : Int) := by omega
   rw [← e];exact Ao
  ·have es : s.silence = none := by
    cases h : s.silence with
    | none => rfl
    | some p => rw [h] at hs; exact absurd rfl hs
   refine ⟨_, rfl, (by show 2 ≤ sizeLine; decide), fun M nM => ?_⟩;have n2 := n1.trans (New.upd (o := .lst [V.int 0, V.int 0]) nM);refine ⟨L, M, _, _, rfl, rfl, (New.upd nM) _ _ hL, Ao, (by show 4 ≤ sizeLine; decide), fun p np => ?_⟩;exact Ky q (l := [(s.now : Int), (s.seq : Int)] ++ [0, 0]) (by unfold Ae; rw [es]) T (n2.trans (New.upd np)) (n2.none np) Ao
theorem F0 : A8 ["table", "numbers", "k", "kind", "defined", "condition", "alarm"] ["table", "numbers"] (Ar s_tell_kind) := by constructor<;>first|rfl|decide +kernel
theorem Ul (D : De K mg "tell_kind" s_tell_kind ["table", "numbers"]) (cT : CK K c.T tK) (cK : CK K c.K kK) (M : Tops mg) (DH : Fn P w K mg base "has_kind" 2 ["table", "k"] (Li c)) : Fn P w K mg base "tell_kind" 8 ["table", "numbers"] (Dt c (mk1 .kind)) := by
 refine D.fn fun f fd F => F.ok F0 (fun vs H Q E h => ?_) (fun cdv A outer s H vs Q E hr h => ?_)
 ·obtain ⟨A, s, nl, args, call, rfl, _⟩ := h;rfl
 ·obtain ⟨A, s, nl, args, call, rfl, T, W, hnl, nown, hmk, q⟩ := h;obtain ⟨k, rfl, rfl⟩ := E7 hmk;refine ⟨_, (Ab (Bf (i := 2) F0.nd rfl (A7 rfl) (Du Cr (pv 1) Ax (fun _ _ => rfl)))
   (Ab (Ca (D7 (Ck (Br DH (hr.mono (by decide)) rfl (Aa (pv 0) (Aa (pv 2) Ag))))) (Ai (A1 (Bl (Aa (C7 M.OUT_OF_RANGE rfl) Ag)))) Bg)
   (Ab (Bf (i := 3) F0.nd rfl (A7 rfl) (Du Cr (An (pv 0) rfl) (pv 2) (fun _ _ => rfl)))
   (Ab (Bf (i := 4) F0.nd rfl (A7 rfl) (Bl (Aa (An (pv 3) rfl) (Aa (An (pv 3) rfl) (Aa (An (pv 3) rfl) (Aa (An (pv 3) rfl) (Aa (An (pv 3) rfl) (Aa (An (pv 3) rfl) Ag))))))))
   (Ab (Bf (i := 5) F0.nd rfl (A7 rfl) (Bl (Aa (Fu Fv (by rfl) M.no_int C8 (Aa (An (pv 3) rfl) Ag)) (Aa (An (pv 3) rfl) (Aa (C1 (Jc rfl) (by rfl) M.no_max boot_max (Aa Ax (Aa (Et K2 (An (pv 3) rfl) (An (pv 0) rfl)) Ag))) Ag)))))
   (Ab (Bf (i := 6) F0.nd rfl (A7 rfl) (Bl (Aa (Fu Fv (by rfl) M.no_int C8 (Aa (An (pv 3) rfl) Ag)) (Aa (An (pv 3) rfl) (Aa (Fu Fv (by rfl) M.no_int C8 (Aa (An (pv 3) rfl) Ag)) (Aa (An (pv 3) rfl) (Aa (An (pv 3) rfl) Ag)))))))
   (Ai (A1 (Et Mi (Et Mi (pv 4) (pv 5)) (pv 6)))))))))), ?_⟩
  obtain ⟨st, hd, ⟨dt, ht, lt⟩, si⟩ := T.tab;refine ⟨_, rfl, nl, _, _, _, rfl, rfl, SqL.of hnl, Ew (j := 0) rfl rfl, ?_⟩;refine ⟨_, rfl, _, rfl, A, s, k, rfl, T, _, rfl, Cm (fun h1 => ?_) (fun h1 => ?_)⟩
  ·have h1 : B0 s k = false := by simpa using h1
   exact D4 q (by unfold Ae; simp [h1]) T Bj.refl
  ·have h1 : B0 s k = true := by simpa using h1
   obtain ⟨p, hp, hk, hat⟩ := T.kindOf h1;obtain ⟨x, hx⟩ := T.kindAt hp;obtain ⟨d0, h0, l0⟩ := T.kin _ p x hp hx;refine ⟨_, rfl, _, _, _, _, _, rfl, ht, cT.cls, cT.n 0 rfl, cT.l lt 0 rfl, _, rfl, A.kl, _, _, _, rfl, rfl, SqL.of T.kl, hat, ?_⟩;refine ⟨_, rfl, _, _, _, _, _, rfl, h0, cK.cls, cK.n 1 rfl, cK.l l0 1 rfl, _, rfl, _, _, _, _, _, rfl, h0, cK.cls, cK.n 2 rfl, cK.l l0 2 rfl, _, rfl, _, _, _, _, _, rfl, h0, cK.cls, cK.n 3 rfl, cK.l l0 3 rfl, _, rfl, _, _, _, _, _, rfl, h0, cK.cls, cK.n 4 rfl, cK.l l0 4 rfl,
    _, rfl, _, _, _, _, _, rfl, h0, cK.cls, cK.n 5 rfl, cK.l l0 5 rfl, _, rfl, _, _, _, _, _, rfl, h0, cK.cls, cK.n 6 rfl, cK.l l0 6 rfl, (by show 6 ≤ sizeLine; decide), fun L1 nL1 => ?_⟩
   have n1 : New H (upd H L1 (.lst [V.int x.rank, V.int (if x.latching then 1 else 0), V.int x.delay, V.int x.escalate, V.int x.again, V.int x.stops])) := New.upd nL1;have hL1 : upd H L1 (.lst [V.int x.rank, V.int (if x.latching then 1 else 0), V.int x.delay, V.int x.escalate, V.int x.again, V.int x.stops]) L1 = some (.lst [V.int x.rank, V.int (if x.latching then 1 else 0), V.int x.delay, V.int x.escalate, V.int x.again, V.int x.stops]) := Ao;show Aaj _ _ _ _ (upd H L1 (.lst [V.int x.rank, V.int (if x.latching then 1 else 0), V.int x.delay, V.int x.escalate, V.int x.again, V.int x.stops]));generalize upd H L1 (.lst [V.int x.rank, V.int (if x.latching then 1 else 0), V.int x.delay, V.int x.escalate, V.int x.again, V.int x.stops]) = H1 at n1 hL1;have h01 := n1 _ _ h0;have ht1 := n1 _ _ ht;refine ⟨_, rfl, _, _, _, _, _, rfl, h01, cK.cls, cK.n 7 rfl, cK.l l0 7 rfl, .inr ⟨_, rfl, _, rfl, _, _, _, _, _, rfl, h01, cK.cls, cK.n 8 rfl, cK.l l0 8 rfl, _, rfl, _, _, _, _, _, rfl, h01, cK.cls, cK.n 9 rfl, cK.l l0 9 rfl, _, rfl, _, _, _, _, _, rfl, ht1, cT.cls, cT.n 2 rfl, cT.l lt 2 rfl, _, _, rfl, rfl, _, _, rfl, (by show 3 ≤ sizeLine; decide), fun L2 nL2 => ?_⟩⟩;have em : (if ((x.shelf : Int) - (s.now : Int)) > 0 then ((x.shelf : Int) - (s.now : Int)) else 0) = ((x.shelf - s.now : Nat) : Int) := by split <;> omega
   have n2 : New H1 (upd H1 L2 (.lst [V.int (if x.cond then 1 else 0), V.int x.held, V.int (if ((x.shelf : Int) - (s.now : Int)) > 0 then ((x.shelf : Int) - (s.now : Int)) else 0)])) := New.upd nL2;have hL2 : upd H1 L2 (.lst [V.int (if x.cond then 1 else 0), V.int x.held, V.int (if ((x.shelf : Int) - (s.now : Int)) > 0 then ((x.shelf : Int) - (s.now : Int)) else 0)]) L2 = some (.lst [V.int (if x.cond then 1 else 0), V.int x.held, V.int (if ((x.shelf : Int) - (s.now : Int)) > 0 then ((x.shelf : Int) - (s.now : Int)) else 0)]) := Ao;show Aaj _ _ _ _ (upd H1 L2 (.lst [V.int (if x.cond then 1 else 0), V.int x.held, V.int (if ((x.shelf : Int) - (s.now : Int)) > 0 then ((x.shelf : Int) - (s.now : Int)) else 0)]));generalize upd H1 L2 (.lst [V.int (if x.cond then 1 else 0), V.int x.held, V.int (if ((x.shelf : Int) - (s.now : Int)) > 0 then ((x.shelf : Int) - (s.now : Int)) else 0)]) = H2 at n2 hL2;have h02 := n2 _ _ h01;refine ⟨_, rfl, _, _, _, _, _, rfl, h02, cK.cls, cK.n 10 rfl, cK.l l0 10 rfl, .inr ⟨_, rfl, _, rfl, _, _, _, _, _, rfl, h02, cK.cls, cK.n 11 rfl, cK.l l0 11 rfl, _, rfl, _, _, _, _, _, rfl, h02, cK.cls, cK.n 12 rfl, cK.l l0 12 rfl, .inr ⟨_, rfl, _, rfl, _, _, _, _, _, rfl, h02, cK.cls, cK.n 13 rfl, cK.l l0 13 rfl, _, rfl, _, _, _, _, _, rfl, h02, cK.cls, cK.n 14 rfl, cK.l l0 14 rfl, (by show 5 ≤ sizeLine; decide), fun L3 nL3 => ?_⟩⟩⟩;have n3 : New H2 (upd H2 L3 (.lst [V.int (if x.up.isSome then 1 else 0), V.int (B3 x.up), V.int (if Iy x.up then 1 else 0), V.int (Mb x.up), V.int (Rk x.up)])) := New.upd nL3;have hL3 : upd H2 L3 (.lst [V.int (if x.up.isSome then 1 else 0), V.int (B3 x.up), V.int (if Iy x.up then 1 else 0), V.int (Mb x.up), V.int (Rk x.up)]) L3 = some (.lst [V.int (if x.up.isSome then 1 else 0), V.int (B3 x.up), V.int (if Iy x.up then 1 else 0), V.int (Mb x.up), V.int (Rk x.up)]) := Ao;generalize upd H2 L3 (.lst [V.int (if x.up.isSome then 1 else 0), V.int (B3 x.up), V.int (if Iy x.up then 1 else 0), V.int (Mb x.up), V.int (Rk x.up)]) = H3 at n3 hL3;refine ⟨_, rfl, _, rfl, L1, L2, _, _, rfl, rfl, n3 _ _ (n2 _ _ hL1), n3 _ _ hL2, (by show 9 ≤ sizeLine; decide), fun L4 nL4 => ?_⟩;have n4 := New.upd (o := .lst ([V.int x.rank, V.int (if x.latching then 1 else 0), V.int x.delay, V.int x.escalate, V.int x.again, V.int x.stops] ++ [V.int (if x.cond then 1 else 0), V.int x.held, V.int (if ((x.shelf : Int) - (s.now : Int)) > 0 then ((x.shelf : Int) - (s.now : Int)) else 0)])) nL4;refine ⟨_, rfl, L4, L3, _, _, rfl, rfl, Ao, n4 _ _ hL3, (by show 14 ≤ sizeLine; decide), fun L5 nL5 => ?_⟩;have n5 := (((n1.trans n2).trans n3).trans n4);refine Ky q (l := Vbdlah.kindNumbers s x) (by unfold Ae; simp [h1, hx]) T (n5.trans (New.upd nL5)) (n5.none nL5) ?_;rw [Ao];unfold Vbdlah.kindNumbers;rw [em]
   cases x.up with
   | none => rfl
   | some u => rfl
theorem Ih : A8 ["table", "numbers", "a", "b"] ["table", "numbers"] (Ar s_tell_before) := by constructor<;>first|rfl|decide +kernel
theorem Pw (D : De K mg "tell_before" s_tell_before ["table", "numbers"]) (cT : CK K c.T tK) (M : Tops mg) (DH : Fn P w K mg base "has_kind" 2 ["table", "k"] (Li c)) (DB : Me P w K mg base c.L "all_before" 1 ["self", "k"] (Mp c)) : Fn P w K mg base "tell_before" 8 ["table", "numbers"] (Dt c (mk2 .before)) := by
 refine D.fn fun f fd F => F.ok Ih (fun vs H Q E h => ?_) (fun cdv A outer s H vs Q E hr h => ?_)
 ·obtain ⟨A, s, nl, args, call, rfl, _⟩ := h;rfl
 ·obtain ⟨A, s, nl, args, call, rfl, T, W, hnl, nown, hmk, q⟩ := h;obtain ⟨a, b, rfl, rfl⟩ := P2 hmk;refine ⟨_, (Ab (Bf (i := 2) Ih.nd rfl (A7 rfl) (Du Cr (pv 1) Ax (fun _ _ => rfl)))
   (Ab (Bf (i := 3) Ih.nd rfl (A7 rfl) (Du Cr (pv 1) Ax (fun _ _ => rfl)))
   (Ab (Ca (PW.pt (Xd (D7 (Ck (Br DH (hr.mono (by decide)) rfl (Aa (pv 0) (Aa (pv 2) Ag))))) (Pl (D7 (Ck (Br DH (hr.mono (by decide)) rfl (Aa (pv 0) (Aa (pv 3) Ag)))))))) (Ai (A1 (Bl (Aa (C7 M.OUT_OF_RANGE rfl) Ag)))) Bg)
   (Ai (A1 (Bl (Aa (Fu Fv (by rfl) M.no_int C8 (Aa (Ji Qx (pv 2) (Ry DB (An (pv 0) rfl) (hr.mono (by decide)) (Aa (pv 3) Ag)) (by rfl)) Ag)) Ag))))))), ?_⟩
  obtain ⟨st, hd, ⟨dt, ht, lt⟩, si⟩ := T.tab;obtain ⟨dl, hln, ll⟩ := id T.ln;refine ⟨_, rfl, nl, _, _, _, rfl, rfl, SqL.of hnl, Ew (j := 0) rfl rfl, ?_⟩;refine ⟨_, rfl, nl, _, _, _, rfl, rfl, SqL.of hnl, Ew (j := 1) rfl rfl, ?_⟩;refine ⟨_, rfl, _, rfl, A, s, a, rfl, T, _, rfl, Cm (fun h1 => U2 ?_) (fun h1 => ?_)⟩
  ·have h1 : B0 s a = false := by simpa using h1
   exact D4 q (by unfold Ae; simp [h1]) T Bj.refl
  ·have h1 : B0 s a = true := by simpa using h1
   refine ⟨_, rfl, _, rfl, A, s, b, rfl, T, _, rfl, Cm (fun h2 => ?_) (fun h2 => ?_)⟩
   ·have h2 : B0 s b = false := by simpa using h2
    exact D4 q (by unfold Ae; simp [h2]) T Bj.refl
   ·have h2 : B0 s b = true := by simpa using h2
    obtain ⟨ha1, ha2⟩ := Ey.mp h1;obtain ⟨hb1, hb2⟩ := Ey.mp h2;obtain ⟨a, rfl⟩ : ∃ m : Nat, a = (m : Int) := ⟨a.toNat, by omega⟩;obtain ⟨b, rfl⟩ : ∃ m : Nat, b = (m : Int) := ⟨b.toNat, by omega⟩;refine ⟨_, rfl, _, rfl, _, _, _, _, _, rfl, ht, cT.cls, cT.n 1 rfl, cT.l lt 1 rfl, A.ln, dl, _, rfl, hln, Le (by decide +kernel), _, rfl, A, s, b, rfl, T, W, by omega, fun H1 p n1 np hp => ?_⟩;refine ⟨p, _, rfl, .inl (SqL.of hp), rfl, by rw [List.all_map]; exact Fl.mpr fun _ _ => rfl, .inr ⟨_, rfl, ?_⟩⟩;have ein : inV (V.int a) ((Bw s b).map fun a : Nat => V.int a) = L8 s a b := by
     rw [Zy];have := Oh W (a := b) (b := a) (by omega)
     cases hb : L8 s a b with
     | true => exact decide_eq_true (this.mpr hb)
     | false => exact decide_eq_false fun z => by rw [this.mp z] at hb; cases hb
    show ([V.int (if inV (V.int a) ((Bw s b).map fun a : Nat => V.int a) then 1 else 0)] : List V).length ≤ sizeLine ∧ _;rw [ein, Aa8];exact D4 q (by unfold Ae; simp [h1, h2]) (T.same n1) (Bj.new n1)
def Mo : Sp := fun vs H Q _ => ∃ (l : Addr) (xs : List V), vs = [.ref l] ∧ H l = some (.lst xs) ∧ xs.length ≤ 900 ∧ ∀ H' p, New H H' → H p = none → H' p = some (.lst (V.int xs.length :: xs)) → Q (.ref p) H'
theorem Yy : A8 ["numbers"] ["numbers"] (Ar s_counted) := by constructor<;>first|rfl|decide +kernel
theorem Zj (D : De K mg "counted" s_counted ["numbers"]) (M : Tops mg) : Fn P w K mg base "counted" 1 ["numbers"] Mo := by
 refine D.fn fun f fd F => F.ok Yy (fun vs H Q E h => ?_) (fun cdv A outer s H vs Q E hr h => ?_)
 ·obtain ⟨l, xs, rfl, _⟩ := h;rfl
 ·obtain ⟨l, xs, rfl, hl, hz, q⟩ := h;refine ⟨_, (Ai (A1 (Et Mi (Bl (Aa (C1 C2 (by rfl) M.no_len Cw (Aa (pv 0) Ag)) Ag)) (pv 0)))), ?_⟩;refine ⟨_, rfl, l, _, rfl, .inl (SqL.of hl), (by show 1 ≤ sizeLine; decide), fun m nm => ?_⟩;have n1 : New H (upd H m (.lst [V.int ((xs.length : Nat) : Int)])) := New.upd nm;refine ⟨_, rfl, m, l, _, _, rfl, rfl, Ao, n1 _ _ hl, En (C0 (by show 1 + xs.length ≤ 1000; omega)), fun p np => ?_⟩;exact q _ p (n1.trans (New.upd np)) (n1.none np) Ao
theorem Q6 (l : List Nat) : (O3 l).map V.int = V.int ((l.map fun a : Nat => V.int a).length : Nat) :: l.map fun a : Nat => V.int a := by
 unfold O3 Vbdlah.nats;rw [Bc, D5, Ac];rfl
theorem Kv : A8 ["table", "numbers", "k"] ["table", "numbers"] (Ar s_tell_behind) := by constructor<;>first|rfl|decide +kernel
theorem Pu (D : De K mg "tell_behind" s_tell_behind ["table", "numbers"]) (cT : CK K c.T tK) (M : Tops mg) (DH : Fn P w K mg base "has_kind" 2 ["table", "k"] (Li c)) (DB : Me P w K mg base c.L "all_before" 1 ["self", "k"] (Mp c)) (DC : Fn P w K mg base "counted" 1 ["numbers"] Mo) : Fn P w K mg base "tell_behind" 8 ["table", "numbers"] (Dt c (mk1 .behind)) := by
 refine D.fn fun f fd F => F.ok Kv (fun vs H Q E h => ?_) (fun cdv A outer s H vs Q E hr h => ?_)
 ·obtain ⟨A, s, nl, args, call, rfl, _⟩ := h;rfl
 ·obtain ⟨A, s, nl, args, call, rfl, T, W, hnl, nown, hmk, q⟩ := h;obtain ⟨k, rfl, rfl⟩ := E7 hmk;refine ⟨_, (Ab (Bf (i := 2) Kv.nd rfl (A7 rfl) (Du Cr (pv 1) Ax (fun _ _ => rfl)))
   (Ab (Ca (D7 (Ck (Br DH (hr.mono (by decide)) rfl (Aa (pv 0) (Aa (pv 2) Ag))))) (Ai (A1 (Bl (Aa (C7 M.OUT_OF_RANGE rfl) Ag)))) Bg)
   (Ai (A1 (Br DC (hr.mono (by decide)) rfl (Aa (Ry DB (An (pv 0) rfl) (hr.mono (by decide)) (Aa (pv 2) Ag)) Ag)))))), ?_⟩
  obtain ⟨st, hd, ⟨dt, ht, lt⟩, si⟩ := T.tab;obtain ⟨dl, hln, ll⟩ := id T.ln;refine ⟨_, rfl, nl, _, _, _, rfl, rfl, SqL.of hnl, Ew (j := 0) rfl rfl, ?_⟩;refine ⟨_, rfl, _, rfl, A, s, k, rfl, T, _, rfl, Cm (fun h1 => ?_) (fun h1 => ?_)⟩
  ·have h1 : B0 s k = false := by simpa using h1
   exact D4 q (by unfold Ae; simp [h1]) T Bj.refl
  ·have h1 : B0 s k = true := by simpa using h1
   obtain ⟨hk1, hk2⟩ := Ey.mp h1;obtain ⟨k, rfl⟩ : ∃ m : Nat, k = (m : Int) := ⟨k.toNat, by omega⟩;have lim := W.lim;have bl : (Bw s k).length ≤ s.kinds.length := by
    unfold Bw E5;refine Bz (Cc _ _) ?_;rw [Ct];exact Ak _
   refine ⟨_, rfl, _, _, _, _, _, rfl, ht, cT.cls, cT.n 1 rfl, cT.l lt 1 rfl, A.ln, dl, _, rfl, hln, Le (by decide +kernel), _, rfl, A, s, k, rfl, T, W, by omega, fun H1 p n1 np hp => ?_⟩;refine ⟨p, _, rfl, hp, by rw [Ac]; omega, fun H2 p2 n2 np2 hp2 => ?_⟩;exact Ky q (l := O3 (Bw s k)) (by unfold Ae; simp [h1]) T (n1.trans n2) (n1.none np2) (by rw [hp2, Q6])
theorem Lj : A8 ["table", "numbers", "k", "kind"] ["table", "numbers"] (Ar s_tell_why) := by constructor<;>first|rfl|decide +kernel
theorem S5 (s : Al) (k : Nat) : (B9 s k).length ≤ s.kinds.length := by
 unfold B9 Bw E5;refine Bz (Cc _ _) (Bz (Cc _ _) ?_);rw [Ct];exact Ak _
theorem Xf (D : De K mg "tell_why" s_tell_why ["table", "numbers"]) (cT : CK K c.T tK) (cK : CK K c.K kK) (M : Tops mg) (DH : Fn P w K mg base "has_kind" 2 ["table", "k"] (Li c)) (DR : Fn P w K mg base "raised_before" 2 ["table", "k"] (Pa c)) (DC : Fn P w K mg base "counted" 1 ["numbers"] Mo) : Fn P w K mg base "tell_why" 8 ["table", "numbers"] (Dt c (mk1 .why)) := by
 refine D.fn fun f fd F => F.ok Lj (fun vs H Q E h => ?_) (fun cdv A outer s H vs Q E hr h => ?_)
 ·obtain ⟨A, s, nl, args, call, rfl, _⟩ := h;rfl
 ·obtain ⟨A, s, nl, args, call, rfl, T, W, hnl, nown, hmk, q⟩ := h;obtain ⟨k, rfl, rfl⟩ := E7 hmk;refine ⟨_, (Ab (Bf (i := 2) Lj.nd rfl (A7 rfl) (Du Cr (pv 1) Ax (fun _ _ => rfl)))
   (Ab (Ca (D7 (Ck (Br DH (hr.mono (by decide)) rfl (Aa (pv 0) (Aa (pv 2) Ag))))) (Ai (A1 (Bl (Aa (C7 M.OUT_OF_RANGE rfl) Ag)))) Bg)
   (Ab (Bf (i := 3) Lj.nd rfl (A7 rfl) (Du Cr (An (pv 0) rfl) (pv 2) (fun _ _ => rfl)))
   (Ab (Ca (D7 (Ck (An (pv 3) rfl))) (Ai (A1 (Bl (Aa (C7 M.NOT_RAISED rfl) Ag)))) Bg)
   (Ai (A1 (Et Mi (Bl (Aa (Fu Fv (by rfl) M.no_int C8 (Aa (An (pv 3) rfl) Ag)) (Aa (Fu Fv (by rfl) M.no_int C8 (Aa (Aj3 (An (pv 3) rfl)) Ag)) Ag))) (Br DC (hr.mono (by decide)) rfl (Aa (Br DR (hr.mono (by decide)) rfl (Aa (pv 0) (Aa (pv 2) Ag))) Ag))))))))), ?_⟩
  obtain ⟨st, hd, ⟨dt, ht, lt⟩, si⟩ := T.tab;refine ⟨_, rfl, nl, _, _, _, rfl, rfl, SqL.of hnl, Ew (j := 0) rfl rfl, ?_⟩;refine ⟨_, rfl, _, rfl, A, s, k, rfl, T, _, rfl, Cm (fun h1 => ?_) (fun h1 => ?_)⟩
  ·have h1 : B0 s k = false := by simpa using h1
   exact D4 q (by unfold Ae; simp [h1]) T Bj.refl
  ·have h1 : B0 s k = true := by simpa using h1
   obtain ⟨hk1, hk2⟩ := Ey.mp h1;obtain ⟨k, rfl⟩ : ∃ m : Nat, k = (m : Int) := ⟨k.toNat, by omega⟩;obtain ⟨p, hp, hk, hat⟩ := T.kindOf h1;obtain ⟨x, hx⟩ := T.kindAt hp;obtain ⟨d0, h0, l0⟩ := T.kin _ p x hp hx;have hx' : s.kinds[k]? = some x := by rw [D8] at hx; exact hx
   refine ⟨_, rfl, _, _, _, _, _, rfl, ht, cT.cls, cT.n 0 rfl, cT.l lt 0 rfl, _, rfl, A.kl, _, _, _, rfl, rfl, SqL.of T.kl, hat, ?_⟩;refine ⟨_, rfl, _, _, _, _, _, rfl, h0, cK.cls, cK.n 10 rfl, cK.l l0 10 rfl, _, rfl, Cm (fun hup => ?_) (fun hup => ?_)⟩
   ·have hu : x.up = none := by
     cases hu : x.up with
     | none => rfl
     | some u => rw [hu] at hup; cases hup
    exact D4 q (by unfold Ae; simp [h1, hx', hu]) T Bj.refl
   ·obtain ⟨u, hu⟩ : ∃ u, x.up = some u := by
     cases hu : x.up with
     | none => rw [hu] at hup; exact absurd rfl hup
     | some u => exact ⟨u, rfl⟩
    have lim := W.lim;have hl := S5 s k;refine ⟨_, rfl, _, _, _, _, _, rfl, h0, cK.cls, cK.n 7 rfl, cK.l l0 7 rfl, .inr ⟨_, rfl, _, rfl, _, _, _, _, _, rfl, h0, cK.cls, cK.n 12 rfl, cK.l l0 12 rfl, _, rfl, .inr ⟨_, rfl, (by show 2 ≤ sizeLine; decide), fun L nL => ?_⟩⟩⟩;have n1 : New H (upd H L (.lst [V.int (if x.cond then 1 else 0), V.int (if !(Iy x.up) then 1 else 0)])) := New.upd nL;have hL : upd H L (.lst [V.int (if x.cond then 1 else 0), V.int (if !(Iy x.up) then 1 else 0)]) L = some (.lst [V.int (if x.cond then 1 else 0), V.int (if !(Iy x.up) then 1 else 0)]) := Ao;show Yq _ _ _ _ _ (upd H L (.lst [V.int (if x.cond then 1 else 0), V.int (if !(Iy x.up) then 1 else 0)])) _;generalize upd H L (.lst [V.int (if x.cond then 1 else 0), V.int (if !(Iy x.up) then 1 else 0)]) = H1 at n1 hL;refine ⟨_, rfl, _, rfl, A, s, k, rfl, T.same n1, W, by omega, fun H2 p2 n2 np2 hp2 => ?_⟩;refine ⟨p2, _, rfl, hp2, by rw [Ac]; omega, fun H3 p3 n3 np3 hp3 => ?_⟩;refine ⟨L, p3, _, _, rfl, rfl, n3 _ _ (n2 _ _ hL), hp3, En (C0 (by simp only [A2, Fz, Ac]; omega)), fun p4 np4 => ?_⟩;have n4 := (n1.trans n2).trans n3;refine Ky q (l := Vh x.cond :: Vh (!u.acked) :: O3 (B9 s k)) (by unfold Ae; simp [h1, hx', hu]) T (n4.trans (New.upd np4)) (n4.none np4) ?_;rw [Ao, Bc, Bc, Q6, ← Aa8, ← Aa8, hu];rfl
abbrev dW (wa : Nat → Addr) (l : List Nat) : List (Key × V) := l.map fun k => (nk k, V.ref (wa k))
theorem Aa1 (wa : Nat → Addr) (a : Nat) : ∀ l : List Nat, Fm (dW wa l) (nk a) = if a ∈ l then some (V.ref (wa a)) else none
 | [] => by simp [Ti]
 | b :: l => by
  show Fm ((nk b, V.ref (wa b)) :: dW wa l) (nk a) = _
  by_cases e : b = a
  ·subst e;rw [Ib rfl, if_pos A0]
  ·rw [Ic fun z => e (Mj.mp z), Aa1 wa a l]
   by_cases h : a ∈ l
   ·rw [if_pos h, if_pos (Am _ h)]
   ·rw [if_neg h, if_neg fun z => (Az.mp z).elim (fun z => e z.symm) h]
theorem Yi (wa : Nat → Addr) (a : Nat) : ∀ l : List Nat, Gk (dW wa l) (nk a) = dW wa (l.filter fun k => k != a)
 | [] => rfl
 | b :: l => by
  show Gk ((nk b, V.ref (wa b)) :: dW wa l) (nk a) = _
  by_cases e : b = a
  ·subst e;rw [Q5 rfl, Yi wa b l, Bu, if_neg (by simp)]
  ·rw [Nj fun z => e (Mj.mp z), Yi wa a l, Bu, if_pos (by simp [e])];rfl
structure Ak5 (H : Hp) (d : Addr) (s : Al) (wa : Nat → Addr) (l : List Nat) : Prop where
 ls : ∀ k ∈ l, H (wa k) = some (.lst ((B9 s k).map fun a : Nat => V.int a))
 up : ∀ k ∈ l, k ∈ D9 s
 nd : l.Nodup
def Afx : Sp := fun vs H Q _ => ∃ (d : Addr) (s : Al) (wa : Nat → Addr) (l : List Nat), vs = [.ref d] ∧ H d = some (.dK (dW wa l)) ∧ Ak5 H d s wa l ∧ Well s ∧ l ≠ [] ∧ ∀ H', New H H' → ∀ k, Hi s l = some k → Q (.int k) H'
theorem Hh : A8 ["waits_for", "k", "a"] ["waits_for"] (Ar s_least_free) := by constructor<;>first|rfl|decide +kernel
theorem R9 (D : De K mg "least_free" s_least_free ["waits_for"]) (M : Tops mg) : Fn P w K mg base "least_free" 1 ["waits_for"] Afx := by
 refine D.fn fun f fd F => F.ok Hh (fun vs H Q E h => ?_) (fun cdv A outer s H vs Q E hr h => ?_)
 ·obtain ⟨d, s, wa, l, rfl, _⟩ := h;rfl
 ·obtain ⟨d, s, wa, l, rfl, hd, Wt, W, hne, q⟩ := h;have hu := U3 hr;refine ⟨_, (Ab (Yf (Ht PassesOwn.never rfl (Uh (pv 0)) (Dj (i := 1) Hh.nd rfl (A7 rfl))
   (Ai (Ca (D7 (Ck (C1 (Agc rfl) (by rfl) M.no_any boot_any (Aa (Zc (own := [("a", 2)]) (g := Jv 2) (tt := Afq) (te := tDIn (Fj 2) (Fj 0)) rfl Hh.nd (Es (Yg hu (pv 0) (pv 1) (fun _ _ => rfl))) (Gb (N := ["waits_for", "k", "a"]) (sc := Ar s_least_free) (by decide +kernel)) (fun _ _ _ _ _ => Dj (i := 2) Hh.nd rfl (A7 rfl)) (fun _ _ _ _ _ => Qv) (fun _ _ _ _ _ => Aj4 (Ag6 hu (pv 2) (pv 0)))) Ag)))) (Ai (A1 (pv 1))) Bg))))
   (Ai (A1 Pp))), ?_⟩
  refine ⟨d, _, hd, trivial, fun od => ?_⟩;have h0 : upd H d (.frz od (.dK (dW wa l))) d = some (.frz od (.dK (dW wa l))) := Ao;have k0 : ∀ b o, H b = some o → b ≠ d → upd H d (.frz od (.dK (dW wa l))) b = some o := fun b o h n => by rw [Aw n]; exact h
  generalize upd H d (.frz od (.dK (dW wa l))) = H0 at h0 k0;refine ⟨_, rfl, d, rfl, .inl ⟨od, _, h0, U4 (fun i σ H' => ∃ v1 v2, σ = [some (.ref d), v1, v2] ∧ H' d = some (.frz od (.dK (dW wa l))) ∧ (∀ b o, H b = some o → b ≠ d → H' b = some o) ∧ ∀ j k, j < i → l[j]? = some k → ((Vbdlah.befores s k).all fun a => !l.contains a) = false)
   ⟨none, none, rfl, h0, k0, fun j k hj => absurd hj (Vq _)⟩ (fun i σ H' ⟨_, _, _, h, _⟩ => h) ?_ ?_⟩⟩
  ·rintro i key v σ H1 hi ⟨v1, v2, rfl, hd1, k1, hb⟩;rw [Ap] at hi
   cases hli : l[i]? with
   | none => rw [hli] at hi; cases hi
   | some k =>
    rw [hli] at hi;obtain ⟨rfl, rfl⟩ : nk k = key ∧ V.ref (wa k) = v := by have := Ah hi; exact ⟨congrArg Prod.fst this, congrArg Prod.snd this⟩
    have hkl : k ∈ l := As hli;have hw := Wt.ls k hkl;have nw : wa k ≠ d := Ng hw hd (by intro z; cases z);have hw1 := k1 _ _ hw nw;have hlen := S5 s k;have lim := W.lim;have dg : ∀ (H2 : Hp) (a : Nat), H2 d = some (.frz od (.dK (dW wa l))) → La H2 d (V.int a) (if a ∈ l then some (V.ref (wa a)) else none) := fun H2 a h => .inl ⟨dW wa l, nk a, .inr ⟨od, h⟩, rfl, (Aa1 wa a l).symm⟩;refine ⟨_, rfl, _, rfl, d, V.ref (wa k), rfl, by have := dg H1 k hd1; rw [if_pos hkl] at this; exact this, wa k, rfl, ⟨_, SqL.of hw1⟩, fun L nL => ?_⟩;refine Q0 (K := K) (xs := (B9 s k).map fun a : Nat => V.int a) (fun i H' => H' = upd H1 L (.lst ((((B9 s k).take i).map fun a => l.contains a).map V.bl))) rfl (fun i H' _ e => ?_) (fun i y H' hi e => ?_) (fun H' e => ?_)
    ·subst e;exact SqL.of ((New.upd nL) _ _ hw1)
    ·rw [Ap] at hi
     cases ha : (B9 s k)[i]? with
     | none => rw [ha] at hi; cases hi
     | some a =>
      rw [ha] at hi;have ey : y = V.int a := (Ah hi).symm;subst ey;subst e;refine ⟨rfl, U2 (B := upd H1 L (.lst ((((B9 s k).take i).map fun a => l.contains a).map V.bl)) = upd H1 L (.lst ((((B9 s k).take (i + 1)).map fun a => l.contains a).map V.bl))) ?_⟩;refine ⟨_, rfl, _, rfl, d, _, rfl, dg _ a ((New.upd nL) _ _ hd1), _, Ao, ?_, ?_⟩
      ·rw [Ac, Ac, Cg];exact C0 (by omega)
      ·have et : (B9 s k).take (i + 1) = (B9 s k).take i ++ [a] := by rw [Ce, ha]; rfl
       have ec : (if a ∈ l then some (V.ref (wa a)) else none).isSome = l.contains a := by
        by_cases h : a ∈ l
        ·rw [if_pos h, Bv.mpr h]; rfl
        ·rw [if_neg h]
         cases hc : l.contains a with
         | false => rfl
         | true => exact absurd (Bv.mp hc) h
       rw [Lg, et, Bb, Bb, ec];rfl
    ·rw [Ac, Cf] at e;have n2 : New H1 H' := by rw [e]; exact New.upd nL
     have hL2 : H' L = some (.lst (((B9 s k).map fun a => l.contains a).map V.bl)) := by rw [e]; exact Ao
     clear e;have hd2 := n2 _ _ hd1;have k2 : ∀ b o, H b = some o → b ≠ d → H' b = some o := fun b o h n => n2 _ _ (k1 b o h n);refine ⟨L, _, rfl, SqL.of hL2, _, rfl, Cm (fun hn => ?_) (fun hn => ?_)⟩
     ·have hn : ((B9 s k).any fun a => l.contains a) = false := by
       have : (((B9 s k).map fun a => l.contains a).any id) = false := by simpa using hn
       rw [Adm] at this;exact this
      have hf := (Z1 W Wt.up hkl).mpr hn;have hnext : Hi s l = some k := by
       unfold Hi;rw [Afj];obtain ⟨hlt, hge⟩ := Af.mp hli;exact ⟨hf, i, hlt, hge, fun j hj => by rw [hb j _ hj (Aq (by omega))]; rfl⟩
      refine ⟨_, rfl, hd2, ?_⟩;refine q _ (fun b o h => ?_) k hnext
      by_cases e : b = d
      ·subst e;rw [hd] at h
       cases h
       exact Ao
      ·rw [Aw e];exact k2 b o h e
     ·have hn : ¬ ((B9 s k).any fun a => l.contains a) = false := by
       intro z;refine hn ?_;have : (((B9 s k).map fun a => l.contains a).any id) = false := by rw [Adm]; exact z
       rw [this];rfl
      refine ⟨_, _, rfl, hd2, k2, fun j k' hj hjk => ?_⟩
      by_cases e : j = i
      ·subst e;have : k' = k := Ah (hjk.symm.trans hli);subst this
       cases hc : ((Vbdlah.befores s k').all fun a => !l.contains a) with
       | false => rfl
       | true => exact absurd ((Z1 W Wt.up hkl).mp hc) hn
      ·exact hb j k' (by omega) hjk
  ·rintro σ H1 ⟨v1, v2, rfl, hd1, k1, hb⟩;rw [Ac] at hb;refine ⟨hd1, ?_⟩;have hnone : Hi s l = none := by
    unfold Hi;rw [Aap];intro k hk;obtain ⟨j, hj⟩ := B2 hk;rw [hb j k (Af.mp hj).1 hj];simp
   obtain ⟨k, hk⟩ := Se W Wt.up hne;rw [hnone] at hk
   cases hk
def Ach (c : Cs) : Sp := fun vs H Q _ => ∃ (A : AD) (s : Al), vs = [.ref A.t] ∧ Tab c A H s ∧ Well s ∧ ∀ H' p, New H H' → H p = none → H' p = some (.lst ((Vg s).map fun a : Nat => V.int a)) → Q (.ref p) H'
theorem Fq : A8 ["table", "waits_for", "kind", "order", "k"] ["table"] (Ar s_reset_order) := by constructor<;>first|rfl|decide +kernel
theorem P0 (D : De K mg "reset_order" s_reset_order ["table"]) (cK : CK K c.K kK) (M : Tops mg) (DK : Fn P w K mg base "raised_kinds" 1 ["table"] (Ie c)) (DR : Fn P w K mg base "raised_before" 2 ["table", "k"] (Pa c)) (DF : Fn P w K mg base "least_free" 1 ["waits_for"] Afx) : Fn P w K mg base "reset_order" 3 ["table"] (Ach c) := by
 refine D.fn fun f fd F => F.ok Fq (fun vs H Q E h => ?_) (fun cdv A outer s H vs Q E hr h => ?_)
 ·obtain ⟨A, s, rfl, _⟩ := h;rfl
 ·obtain ⟨A, s, rfl, T, W, q⟩ := h;have hu := U3 hr;refine ⟨_, (Ab (Bf (i := 1) Fq.nd rfl (A7 rfl) Js)
   (Ab (Ht PassesOwn.never rfl (Es (Br DK (hr.mono (by decide)) rfl (Aa (pv 0) Ag))) (Dj (i := 2) Fq.nd rfl (A7 rfl)) (Ai (Qw hu (pv 1) (An (pv 2) rfl) (Br DR (hr.mono (by decide)) rfl (Aa (pv 0) (Aa (An (pv 2) rfl) Ag))) rfl)))
   (Ab (Bf (i := 3) Fq.nd rfl (A7 rfl) (Bl Ag))
   (Ab (M3 PassesOwn.never (B6 Pr (C1 Wj (by rfl) M.no_len Cw (Aa (pv 1) Ag)) Ax (Cq _)) (Ab (Bf (i := 4) Fq.nd rfl (A7 rfl) (Br DF (hr.mono (by decide)) rfl (Aa (pv 1) Ag)))
   (Ab (Cv (Uj (pv 1) (pv 4) ⟨rfl, rfl, rfl, rfl⟩))
   (Ai (Cv (M6 B1 E2 E1 Jb (pv 3) (Aa (pv 4) Ag)))))))
   (Ai (A1 (pv 3))))))), ?_⟩
  intro d nd;have n0 : New H (upd H d (.dK [])) := New.upd nd;have hd0 : upd H d (.dK []) d = some (.dK []) := Ao;show Aaj _ _ _ _ (upd H d (.dK []));generalize upd H d (.dK []) = H0 at n0 hd0;have lim := W.lim;have rlen := Dq s;have T0 := T.same n0;have hun : ((Aj s).map (·.kind)).Nodup := (Dl s).uniq;refine ⟨_, rfl, A, s, rfl, T0, W.lim, fun H1 rl n1 nrl hrl => ⟨rl, rfl, ⟨_, SqL.of hrl⟩, ?_⟩⟩;have nrd : rl ≠ d := (Av hd0 nrl).symm;have T1 := T0.same n1;refine Jw (K := K) (xs := (Ir A (Aj s)).map V.ref) (fun i σ H' => ∃ (wa : Nat → Addr) (v2 : Option V), σ = [some (.ref A.t), some (.ref d), v2, none, none] ∧ H' d = some (.dK (dW wa (((Aj s).take i).map (·.kind)))) ∧ (∀ b o, H1 b = some o → b ≠ d → H' b = some o) ∧
   ∀ k ∈ ((Aj s).take i).map (·.kind), H' (wa k) = some (.lst ((B9 s k).map fun a : Nat => V.int a))) ⟨fun _ => 0, none, rfl, n1 _ _ hd0, fun b o h _ => h, fun k hk => by simp at hk⟩ (fun i σ H' _ ⟨_, _, _, _, k, _⟩ => SqL.of (k _ _ hrl nrd)) ?_ ?_
  ·rintro i y σ H' hi ⟨wa, v2, rfl, hd', k', hw'⟩;obtain ⟨r, hri, rfl⟩ := Ra hi;have hmem := As hri;obtain ⟨x, u, hp, hx, hux, e1, e2, e3⟩ := T1.row (Kc hmem);obtain ⟨dk, hpk, lk⟩ := T1.kin _ _ x hp hx;have npd : A.ks.getD r.kind 0 ≠ d := Ng hpk (n1 _ _ hd0) (by intro z; cases z);have hpk' := k' _ _ hpk npd;have n' : New H H' := fun b o h => k' _ _ (n1 _ _ (n0 _ _ h)) (Av h nd);have T' := T.same n';have hkl : r.kind < s.kinds.length := (Af.mp hx).1;refine ⟨_, rfl, _, rfl, _, _, _, _, _, rfl, hpk', cK.cls, cK.n 0 rfl, cK.l lk 0 rfl, A, s, r.kind, rfl, T', W, hkl, fun H2 l2 n2 nl2 hl2 => ?_⟩;have hd2 := n2 _ _ hd';have hni : r.kind ∉ ((Aj s).take i).map (·.kind) := fun z => by
    obtain ⟨q', hq, e⟩ := Ay.mp z;obtain ⟨j, hj⟩ := B2 hq;rw [O5] at hj
    split at hj
    ·rename_i hji;have := Sf hun (i := j) (j := i) (x := r.kind) (by rw [Ap, hj]; exact congrArg some e) (by rw [Ap, hri]; rfl);omega
    ·cases hj
   refine ⟨_, rfl, _, rfl, _, _, _, _, _, rfl, n2 _ _ hpk', cK.cls, cK.n 0 rfl, cK.l lk 0 rfl, d, _, rfl, Aad.k (k := nk r.kind) hd2 ?_, ?_⟩
   ·rw [Ac, Ac, Cg];exact C0 (by omega)
   ·have et : (Aj s).take (i + 1) = (Aj s).take i ++ [r] := by rw [Ce, hri]; rfl
    have hv : Fm (dW wa (((Aj s).take i).map (·.kind))) (nk r.kind) = none := by rw [Aa1, if_neg hni]
    have edw : dW (fun j => if j = r.kind then l2 else wa j) (((Aj s).take (i + 1)).map (·.kind)) = dW wa (((Aj s).take i).map (·.kind)) ++ [(nk r.kind, V.ref l2)] := by
     unfold dW;rw [et, Bb, Bb]
     congr 1
     ·apply Iw
      intro k hk;show (nk k, V.ref (if k = r.kind then l2 else wa k)) = _;rw [if_neg fun z => hni (by rw [← z]; exact hk)]
     ·show [(nk r.kind, V.ref (if r.kind = r.kind then l2 else wa r.kind))] = _;rw [if_pos rfl]
    have nld : l2 ≠ d := (Av hd' nl2).symm;refine ⟨fun j => if j = r.kind then l2 else wa j, _, rfl, ?_, fun b o h n => ?_, fun k hk => ?_⟩
    ·rw [Ao, M0 _ hv, edw]
    ·rw [Aw n];exact n2 _ _ (k' b o h n)
    ·rw [et, Bb] at hk
     rcases Ba.mp hk with hk | hk
     ·have hk0 := hw' k hk;have hne : ¬ k = r.kind := fun z => hni (by rw [← z]; exact hk);show upd H2 d _ (if k = r.kind then l2 else wa k) = _;rw [if_neg hne, Aw (Ng hk0 hd' (by intro z; cases z))];exact n2 _ _ hk0
     ·have hk : k = r.kind := by simpa using hk
      subst hk;show upd H2 d _ (if r.kind = r.kind then l2 else wa r.kind) = _;rw [if_pos rfl, Aw nld];exact hl2
  ·rintro σ H2 ⟨wa, v2, rfl, hd2, k2, hw2⟩;rw [J1, Cf] at hd2 hw2;rw [← Jr] at hd2 hw2;have n2 : New H H2 := fun b o h => k2 _ _ (n1 _ _ (n0 _ _ h)) (Av h nd);refine ⟨B7 _, fun L nL => ?_⟩;have hd3 := (New.upd (o := .lst []) nL) _ _ hd2;have hL3 : upd H2 L (.lst []) L = some (.lst []) := Ao;have n3 := n2.trans (New.upd (o := .lst []) nL);have w3 : ∀ k ∈ D9 s, upd H2 L (.lst []) (wa k) = some (.lst ((B9 s k).map fun a : Nat => V.int a)) := fun k hk => (New.upd (o := .lst []) nL) _ _ (hw2 k hk);show Aaj _ _ _ _ (upd H2 L (.lst []));generalize upd H2 L (.lst []) = H3 at hd3 hL3 n3 w3;have nL0 : H L = none := n2.none nL;have nLd : L ≠ d := (Av hd2 nL).symm;have nLw : ∀ k ∈ D9 s, wa k ≠ L := fun k hk => Av (hw2 k hk) nL;have rl2 : (D9 s).length ≤ s.kinds.length := by rw [Jr, Ac]; exact rlen
   let Inv0 : Nat → L2.St → Hp → Prop := fun m σ H' => ∃ (left done : List Nat) (n : Nat) (v4 : Option V), σ = [some (.ref A.t), some (.ref d), v2, some (.ref L), v4] ∧ m = left.length ∧ H' d = some (.dK (dW wa left)) ∧ Ak5 H' d s wa left ∧ H' L = some (.lst (done.map fun a : Nat => V.int a)) ∧ New H H' ∧
    done ++ Vbdlah.lineUp s n left = Vg s ∧ left.length ≤ n ∧ done.length + left.length ≤ s.kinds.length
   have rnd : (D9 s).Nodup := by rw [Jr]; exact hun
   refine ⟨Inv0, ⟨(D9 s).length, D9 s, [], s.kinds.length, none, rfl, rfl, hd3, ⟨w3, fun k hk => hk, rnd⟩, hL3, n3, rfl, rl2, (by simpa using rl2)⟩, ?_⟩;rintro m σ H4 ⟨left, done, n, v4, rfl, rfl, hd4, W4, hL4, n4, eo, hln, hdl⟩;refine ⟨_, rfl, d, _, rfl, hd4, _, _, rfl, rfl, _, rfl, Cm (fun h0 => ?_) (fun h0 => ?_)⟩
   ·have h0 : left ≠ [] := fun z => by
     have := of_decide_eq_true h0;rw [z] at this;simp at this
    refine ⟨fun σ' H' => ∃ m', m' < left.length ∧ Inv0 m' σ' H', fun _ _ h => h, ?_⟩;refine ⟨_, rfl, d, s, wa, left, rfl, hd4, W4, W, h0, fun H5 n5 k hk => ?_⟩;have hkl : k ∈ left := List.mem_of_find?_eq_some hk;have hd5 := n5 _ _ hd4;have hL5 := n5 _ _ hL4;have hv : Fm (dW wa left) (nk k) = some (V.ref (wa k)) := by rw [Aa1, if_pos hkl]
    refine ⟨_, rfl, d, rfl, .inl ⟨_, .inl hd5⟩, _, rfl, _, nk k, _, hd5, rfl, hv, ?_⟩;rw [Yi];have hd6 : upd H5 d (.dK (dW wa (left.filter fun a => a != k))) d = some (.dK (dW wa (left.filter fun a => a != k))) := Ao;have hL6 : upd H5 d (.dK (dW wa (left.filter fun a => a != k))) L = some (.lst (done.map fun a : Nat => V.int a)) := by rw [Aw nLd]; exact hL5
    have n6 : New H (upd H5 d (.dK (dW wa (left.filter fun a => a != k)))) := fun b o h => by rw [Aw (Av h nd)]; exact n5 _ _ (n4 _ _ h)
    have sub : ∀ j ∈ left.filter (fun a => a != k), j ∈ left := fun j hj => (Bn.mp hj).1;have w6 : ∀ j ∈ left.filter (fun a => a != k), upd H5 d (.dK (dW wa (left.filter fun a => a != k))) (wa j) = some (.lst ((B9 s j).map fun a : Nat => V.int a)) := fun j hj => by
     have h5 := n5 _ _ (W4.ls j (sub j hj));rw [Aw (Ng h5 hd5 (by intro z; cases z))];exact h5
    generalize upd H5 d (.dK (dW wa (left.filter fun a => a != k))) = H6 at hd6 hL6 n6 w6;refine ⟨_, rfl, .inl ⟨rfl, _, SqL.of hL6⟩, _, rfl, L, _, _, rfl, rfl, hL6, C0 (by rw [Ac]; omega), ?_⟩;have lf : (left.filter fun a => a != k).length < left.length := by
     rw [Xv];exact ⟨k, hkl, by simp⟩
    refine ⟨_, lf, _, done ++ [k], n - 1, some (V.int k), rfl, rfl, ?_, ⟨fun j hj => ?_, fun j hj => W4.up j (sub j hj), W4.nd.filter _⟩, ?_, fun b o h => ?_, ?_, by omega, ?_⟩
    ·rw [Aw nLd.symm]; exact hd6
    ·rw [Aw (nLw j (W4.up j (sub j hj)))];exact w6 j hj
    ·rw [Ao, Bb];rfl
    ·rw [Aw (Av h nL0)];exact n6 b o h
    ·obtain ⟨m, rfl⟩ : ∃ m, n = m + 1 := ⟨n - 1, by have := List.length_pos_iff.mpr h0; omega⟩;rw [← eo, Xn hk, Ho];rfl
    ·rw [A6];simp only [A2, Fz];omega
   ·have h0 : left = [] := by
     cases left with
     | nil => rfl
     | cons a l => exact absurd (decide_eq_true (by rw [Ac, A2]; omega)) h0
    subst h0;rw [Zs, B8] at eo;rw [eo] at hL4;exact ⟨_, rfl, q H4 L n4 nL0 hL4⟩
theorem Aba {s : Al} : (Vg s).length ≤ s.kinds.length := by
 have : ∀ (n : Nat) (l : List Nat), (Vbdlah.lineUp s n l).length ≤ n := by
  intro n
  induction n with
  | zero => intro l; exact Ak _
  | succ n ih =>
   intro l;rw [Vbdlah.lineUp]
   split
   ·exact B7 _
   ·rw [A2];exact Tf (ih _)
 exact this _ _
theorem Rn : A8 ["table", "numbers"] ["table", "numbers"] (Ar s_tell_order) := by constructor<;>first|rfl|decide +kernel
theorem R5 (D : De K mg "tell_order" s_tell_order ["table", "numbers"]) (DO : Fn P w K mg base "reset_order" 3 ["table"] (Ach c)) (DC : Fn P w K mg base "counted" 1 ["numbers"] Mo) : Fn P w K mg base "tell_order" 8 ["table", "numbers"] (Dt c (mk0 .order)) := by
 refine D.fn fun f fd F => F.ok Rn (fun vs H Q E h => ?_) (fun cdv A outer s H vs Q E hr h => ?_)
 ·obtain ⟨A, s, nl, args, call, rfl, _⟩ := h;rfl
 ·obtain ⟨A, s, nl, args, call, rfl, T, W, hnl, nown, hmk, q⟩ := h;obtain ⟨rfl, rfl⟩ := Gu hmk;refine ⟨_, (Ai (A1 (Br DC (hr.mono (by decide)) rfl (Aa (Br DO (hr.mono (by decide)) rfl (Aa (pv 0) Ag)) Ag)))), ?_⟩;have lim := W.lim;have ol := Aba (s := s);refine ⟨_, rfl, A, s, rfl, T, W, fun H1 p n1 np hp => ?_⟩;refine ⟨p, _, rfl, hp, by rw [Ac]; omega, fun H2 p2 n2 np2 hp2 => ?_⟩;exact Ky q (l := O3 (Vg s)) rfl T (n1.trans n2) (n1.none np2) (by rw [hp2, Q6])
end
theorem Ac4 (m n : Nat) : Builtin.bitOr (m : Int) (n : Int) = ((m ||| n : Nat) : Int) := by
 unfold Builtin.bitOr;rw [bitAnd_nn (by unfold Builtin.bitNot; omega) (by unfold Builtin.bitNot; omega), bitNot_bitNot, bitNot_bitNot, bitNot_bitNot, D8, D8]
theorem X0 {α β γ : Type} (f : α → β) (g : α → γ) : ∀ l : List α, (l.map f).zip (l.map g) = l.map fun a => (f a, g a)
 | [] => rfl
 | a :: l => by rw [Bc, Bc, Aan, X0 f g l]; rfl
section
variable {P : Program} {w : World} {K : Ad} {mg : Str → Option Value} {base : Heap} {C : Addr} {c : Cs}
theorem G9 : A8 ["table", "numbers", "in_force", "kind"] ["table", "numbers"] (Ar s_tell_stops) := by constructor<;>first|rfl|decide +kernel
theorem R0 (D : De K mg "tell_stops" s_tell_stops ["table", "numbers"]) (cK : CK K c.K kK) (DK : Fn P w K mg base "raised_kinds" 1 ["table"] (Ie c)) : Fn P w K mg base "tell_stops" 8 ["table", "numbers"] (Dt c (mk0 .stops)) := by
 refine D.fn fun f fd F => F.ok G9 (fun vs H Q E h => ?_) (fun cdv A outer s H vs Q E hr h => ?_)
 ·obtain ⟨A, s, nl, args, call, rfl, _⟩ := h;rfl
 ·obtain ⟨A, s, nl, args, call, rfl, T, W, hnl, nown, hmk, q⟩ := h;obtain ⟨rfl, rfl⟩ := Gu hmk;refine ⟨_, (Ab (Bf (i := 2) G9.nd rfl (A7 rfl) Ax)
   (Ab (Ht PassesOwn.never rfl (Es (Br DK (hr.mono (by decide)) rfl (Aa (pv 0) Ag))) (Dj (i := 3) G9.nd rfl (A7 rfl)) (Ai (Bf (i := 2) G9.nd rfl (A7 rfl) (Et Akn (pv 2) (An (pv 3) rfl)))))
   (Ai (A1 (Bl (Aa (pv 2) Ag)))))), ?_⟩
  refine ⟨_, rfl, A, s, rfl, T, W.lim, fun H1 l n1 nl1 hl => ⟨l, rfl, ⟨_, SqL.of hl⟩, ?_⟩⟩;have T1 := T.same n1;refine Jw (K := K) (xs := (Ir A (Aj s)).map V.ref) (fun i σ H' => ∃ v3, σ = [some (.ref A.t), some (.ref nl), some (.int ((((Aj s).take i).foldl (fun m r => m ||| V0 s r.kind) 0 : Nat))), v3] ∧ H' = H1) ⟨none, rfl, rfl⟩ (fun i σ H' _ ⟨_, _, e⟩ => by rw [e]; exact SqL.of hl) ?_ ?_
  ·rintro i y σ H' hi ⟨v3, rfl, rfl⟩;obtain ⟨r, hri, rfl⟩ := Ra hi;obtain ⟨x, u, hp, hx, hux, e1, e2, e3⟩ := T1.row (Kc (As hri));obtain ⟨dk, hpk, lk⟩ := T1.kin _ _ x hp hx;refine ⟨_, rfl, _, rfl, _, _, _, _, _, rfl, hpk, cK.cls, cK.n 6 rfl, cK.l lk 6 rfl, _, _, rfl, rfl, ?_⟩;have et : (Aj s).take (i + 1) = (Aj s).take i ++ [r] := by rw [Ce, hri]; rfl
   have es : V0 s r.kind = x.stops := by unfold V0; rw [hx]
   refine ⟨some (V.ref (A.ks.getD r.kind 0)), ?_, rfl⟩;rw [et, Eo, Cu, Ko, es, ← Ac4];rfl
  ·rintro σ H' ⟨v3, rfl, rfl⟩;rw [J1, Cf, ← Yr];exact ⟨_, rfl, D4 q rfl T1 (Bj.new n1)⟩
def spBy (c : Cs) : Sp := fun vs H Q _ => ∃ (p : Addr) (k : Nat) (x : Bo), vs = [.ref p] ∧ Ob c.K kK H p (kv k x) ∧ Q (.int (Rk x.up)) H
theorem Lk : A8 ["kind"] ["kind"] (Ar s_raising_number) := by constructor<;>first|rfl|decide +kernel
theorem Lq (D : De K mg "raising_number" s_raising_number ["kind"]) (cK : CK K c.K kK) : Fn P w K mg base "raising_number" 1 ["kind"] (spBy c) := by
 refine D.fn fun f fd F => F.ok Lk (fun vs H Q E h => ?_) (fun cdv A outer s H vs Q E hr h => ?_)
 ·obtain ⟨p, k, x, rfl, _⟩ := h;rfl
 ·obtain ⟨p, k, x, rfl, ⟨dk, hp, lk⟩, q⟩ := h;refine ⟨_, (Ai (A1 (An (pv 0) rfl))), ?_⟩;exact ⟨_, rfl, _, _, _, _, _, rfl, hp, cK.cls, cK.n 14 rfl, cK.l lk 14 rfl, q⟩
def Ace (c : Cs) : Sp := fun vs H Q _ => ∃ (A : AD) (s : Al), vs = [.ref A.t] ∧ Tab c A H s ∧ Well s ∧ ∀ H' p, New H H' → H p = none → H' p = some (.lst ((Ir A (Cn s)).map V.ref)) → Q (.ref p) H'
theorem Ll : A8 ["table"] ["table"] (Ar s_raised_in_turn) := by constructor<;>first|rfl|decide +kernel
theorem Vc {A : AD} {l : List Bk} : (Ir A l).length = l.length := by unfold Ir; rw [Ac]
theorem Age {A : AD} {l : List Bk} {i : Nat} {p : Addr} (h : (Ir A l)[i]? = some p) : ∃ r, l[i]? = some r ∧ p = A.ks.getD r.kind 0 := by
 unfold Ir at h;rw [Ap] at h
 cases hr : l[i]? with
 | none => rw [hr] at h; cases h
 | some r => rw [hr] at h; exact ⟨r, rfl, (Ah h).symm⟩
theorem Lr (D : De K mg "raised_in_turn" s_raised_in_turn ["table"]) (M : Tops mg) (DK : Fn P w K mg base "raised_kinds" 1 ["table"] (Ie c)) (DN : Fn P w K mg base "raising_number" 1 ["kind"] (spBy c)) : Fn P w K mg base "raised_in_turn" 4 ["table"] (Ace c) := by
 refine D.fn fun f fd F => F.ok Ll (fun vs H Q E h => ?_) (fun cdv A outer s H vs Q E hr h => ?_)
 ·obtain ⟨A, s, rfl, _⟩ := h;rfl
 ·obtain ⟨A, s, rfl, T, W, q⟩ := h;obtain ⟨fn, fdn, Fn, hm, kp, hb⟩ := DN;refine ⟨_, (Ai (A1 (Y9 (k := 1) Ae1 (hr.mono (by decide)) (by rfl) M.no_sorted (Br DK (hr.mono (by decide)) rfl (Aa (pv 0) Ag)) (Kd (v := .ref fn) rfl hm rfl)))), ?_⟩;have lim := W.lim;have rlen := Dq s;refine ⟨_, rfl, A, s, rfl, T, W.lim, fun H1 l n1 nl hl => ?_⟩;have T1 := T.same n1;refine ⟨l, Ir A (Aj s), (Aj s).map (fun r => (r.seq : Int)), fn, fdn, "kind", _, rfl, rfl, SqL.of hl, by rw [Vc]; omega, by rw [Vc, Ac], Fn, hb, fun i p z H3 hp hz n3 => ?_, fun ps D H3 p1 p2 _ n3 nD hD => ?_⟩
  ·obtain ⟨r, hri, rfl⟩ := Age hp;rw [Ap, hri] at hz;have ez : z = (r.seq : Int) := (Ah hz).symm;obtain ⟨x, u, hp, hx, hux, e1, e2, e3⟩ := T1.row (Kc (As hri));refine ⟨_, r.kind, x, rfl, (T1.kin _ _ x hp hx).new n3, New.refl, ?_⟩;rw [ez, e1, hux];rfl
  ·unfold Ir at p1;rw [X0] at p1;obtain ⟨R, pR, rfl⟩ := Ui p1;have p2' := List.pairwise_map.mp p2;have e : R = Cn s := Agn W pR p2';subst e;refine q H3 D (n1.trans n3) (n1.none nD) ?_;rw [hD];unfold Ir;simp only [D5];rfl
def Ais (c : Cs) : Sp := fun vs H Q _ => ∃ (p : Addr) (k : Nat) (x : Bo), vs = [.ref p] ∧ Ob c.K kK H p (kv k x) ∧ ∀ t, H t = none → Q (.ref t) (upd H t (.tup [.int (if Iy x.up then 1 else 0), .int (-(B3 x.up : Int))]))
theorem Yw : A8 ["kind"] ["kind"] (Ar s_urgency) := by constructor<;>first|rfl|decide +kernel
theorem Zg (D : De K mg "urgency" s_urgency ["kind"]) (cK : CK K c.K kK) (M : Tops mg) : Fn P w K mg base "urgency" 1 ["kind"] (Ais c) := by
 refine D.fn fun f fd F => F.ok Yw (fun vs H Q E h => ?_) (fun cdv A outer s H vs Q E hr h => ?_)
 ·obtain ⟨p, k, x, rfl, _⟩ := h;rfl
 ·obtain ⟨p, k, x, rfl, ⟨dk, hp, lk⟩, q⟩ := h;refine ⟨_, (Ai (A1 (Ag3 (Aa (Fu Fv (by rfl) M.no_int C8 (Aa (An (pv 0) rfl) Ag)) (Aa (Aj2 Acz (An (pv 0) rfl)) Ag))))), ?_⟩;exact ⟨_, rfl, _, _, _, _, _, rfl, hp, cK.cls, cK.n 12 rfl, cK.l lk 12 rfl, .inr ⟨_, rfl, _, rfl, _, _, _, _, _, rfl, hp, cK.cls, cK.n 11 rfl, cK.l lk 11 rfl, _, rfl, (by show 2 ≤ sizeLine; decide), fun t nt => q t nt⟩⟩
def Mq (s : Al) (r : Bk) : List Int := [(r.kind : Int), (r.rank : Int), Vh r.acked, Vh (Ej s r.kind)]
theorem Af3 {α : Type} {f : α → List Int} {n : Nat} (h : ∀ a, (f a).length = n) : ∀ l : List α, (l.flatMap f).length = n * l.length
 | [] => rfl
 | a :: l => by rw [Kp, A6, h, Af3 h l, A2, Nat.mul_succ]; omega
theorem Hg : A8 ["table", "numbers", "shown", "told", "kind"] ["table", "numbers"] (Ar s_tell_shown) := by constructor<;>first|rfl|decide +kernel
theorem R4 (D : De K mg "tell_shown" s_tell_shown ["table", "numbers"]) (cK : CK K c.K kK) (M : Tops mg) (DT : Fn P w K mg base "raised_in_turn" 4 ["table"] (Ace c)) (DU : Fn P w K mg base "urgency" 1 ["kind"] (Ais c)) : Fn P w K mg base "tell_shown" 8 ["table", "numbers"] (Dt c (mk0 .shown)) := by
 refine D.fn fun f fd F => F.ok Hg (fun vs H Q E h => ?_) (fun cdv A outer s H vs Q E hr h => ?_)
 ·obtain ⟨A, s, nl, args, call, rfl, _⟩ := h;rfl
 ·obtain ⟨A, s, nl, args, call, rfl, T, W, hnl, nown, hmk, q⟩ := h;obtain ⟨rfl, rfl⟩ := Gu hmk;obtain ⟨fn, fdn, Fn, hm, kp, hb⟩ := DU;refine ⟨_, (Ab (Bf (i := 2) Hg.nd rfl (A7 rfl) (Y9 (k := 1) Ae0 (hr.mono (by decide)) (by rfl) M.no_sorted (Br DT (hr.mono (by decide)) rfl (Aa (pv 0) Ag)) (Kd (v := .ref fn) rfl hm rfl)))
   (Ab (Bf (i := 3) Hg.nd rfl (A7 rfl) (Bl (Aa (C1 C2 (by rfl) M.no_len Cw (Aa (pv 2) Ag)) Ag)))
   (Ab (Ht PassesOwn.never rfl (Es (pv 2)) (Dj (i := 4) Hg.nd rfl (A7 rfl)) (Ai (Cv (M6 B1 Jh Jg Nh (pv 3) (Aa (Bl (Aa (An (pv 4) rfl) (Aa (An (pv 4) rfl) (Aa (Fu Fv (by rfl) M.no_int C8 (Aa (An (pv 4) rfl) Ag)) (Aa (Fu Fv (by rfl) M.no_int C8 (Aa (An (pv 4) rfl) Ag)) Ag))))) Ag)))))
   (Ai (A1 (pv 3)))))), ?_⟩
  have lim := W.lim;have rlen := Dq s;have rl2 := Y2 s;have sl2 : (G2 s).length = (Aj s).length := (E3 _).length_eq;refine ⟨_, rfl, A, s, rfl, T, W, fun H1 l n1 nl1 hl => ?_⟩;have T1 := T.same n1;refine ⟨l, Ir A (Cn s), (Cn s).map urg, fn, fdn, "kind", _, rfl, rfl, SqL.of hl, by rw [Vc]; omega, by rw [Vc, Ac], Fn, hb, fun i p z H3 hp hz n3 => ?_, fun ps D H3 p1 p2 p3 n3 nD hD => ?_⟩
  ·obtain ⟨r, hri, rfl⟩ := Age hp;rw [Ap, hri] at hz;have ez : z = urg r := (Ah hz).symm;obtain ⟨x, u, hp, hx, hux, e1, e2, e3⟩ := T1.row (Sr (As hri));refine ⟨_, r.kind, x, rfl, (T1.kin _ _ x hp hx).new n3, fun t nt => ⟨New.upd nt, t, rfl, ?_⟩⟩;rw [Ao, ez, hux];unfold urg;rw [e2, e3];rfl
  ·have hp1 := p1;unfold Ir at p1 p3;rw [X0] at p1 p3;obtain ⟨R, pR, rfl⟩ := Ui p1;have inj : ∀ a ∈ R, ∀ b ∈ Cn s, (urg a, A.ks.getD a.kind 0) = (urg b, A.ks.getD b.kind 0) → a = b := fun a ha b hb e => by
    have e' : A.ks.getD a.kind 0 = A.ks.getD b.kind 0 := congrArg Prod.snd e;obtain ⟨_, _, ha1, _⟩ := T1.row (Sr (pR.mem_iff.mp ha));obtain ⟨_, _, hb1, _⟩ := T1.row (Sr hb);rw [← e'] at hb1;exact Agm (Fh s).uniq (pR.mem_iff.mp ha) hb (Sf T1.knd ha1 hb1)
   have e : R = G2 s := by
    have p2' := List.pairwise_map.mp p2;refine Ae2 W pR p2' fun c => ?_;have := p3 c;rw [Vr, Vr] at this;refine Sy (fun a ha b hb e => inj a (Bn.mp ha).1 b (Bn.mp hb).1 e) this
   subst e;have hD : H3 D = some (.lst ((Ir A (G2 s)).map V.ref)) := by
    rw [hD];unfold Ir;simp only [D5];rfl
   have n3 := n1.trans n3;have T3 := T.same n3;refine ⟨_, rfl, D, _, rfl, .inl (SqL.of hD), (by show 1 ≤ sizeLine; decide), fun L nL => ?_⟩;have nDL : D ≠ L := Av hD nL;have nL0 : H L = none := n3.none nL;have fl := fun j => Af3 (f := Mq s) (n := 4) (fun _ => rfl) ((G2 s).take j);refine ⟨_, rfl, D, rfl, ⟨_, SqL.of ((New.upd nL) _ _ hD)⟩, ?_⟩;refine Jw (K := K) (xs := (Ir A (G2 s)).map V.ref) (fun i σ H' => ∃ v4, σ = [some (.ref A.t), some (.ref nl), some (.ref D), some (.ref L), v4] ∧ (∀ b o, H3 b = some o → H' b = some o) ∧ H' L = some (.lst ((((G2 s).length : Int) :: ((G2 s).take i).flatMap (Mq s)).map V.int)))
    ⟨none, rfl, New.upd nL, by rw [Ao, J1]; rfl⟩ (fun i σ H' _ ⟨_, _, k, _⟩ => SqL.of (k _ _ hD)) ?_ ?_
   ·rintro i y σ H' hi ⟨v4, rfl, k', hL'⟩;obtain ⟨r, hri, rfl⟩ := Ra hi;obtain ⟨x, u, hp, hx, hux, e1, e2, e3⟩ := T3.row (Ah2 (As hri));obtain ⟨dk, hpk, lk⟩ := T3.kin _ _ x hp hx;have hp' := k' _ _ hpk;refine ⟨_, rfl, .inl ⟨rfl, _, SqL.of hL'⟩, _, rfl, _, _, _, _, _, rfl, hp', cK.cls, cK.n 0 rfl, cK.l lk 0 rfl, _, rfl, _, _, _, _, _, rfl, hp', cK.cls, cK.n 11 rfl, cK.l lk 11 rfl, _, rfl, _, _, _, _, _, rfl, hp', cK.cls, cK.n 12 rfl, cK.l lk 12 rfl, .inr ⟨_, rfl, _, rfl, _, _, _, _, _, rfl, hp', cK.cls, cK.n 7 rfl, cK.l lk 7 rfl, .inr ⟨_, rfl, (by show 4 ≤ sizeLine; decide), fun m nm => ?_⟩⟩⟩;have et : (G2 s).take (i + 1) = (G2 s).take i ++ [r] := by rw [Ce, hri]; rfl
    have nLm : L ≠ m := Av hL' nm;have hls := fl i;rw [Cg] at hls;refine ⟨L, m, _, _, rfl, rfl, (New.upd nm) _ _ hL', Ao, En (C0 ?_), ?_⟩
    ·rw [Ac, A2, hls];simp only [A2, Fz];omega
    ·refine ⟨_, rfl, fun b o h => ?_, ?_⟩
     ·rw [Aw (Av h nL), Aw (Av (k' _ _ h) nm)];exact k' _ _ h
     ·rw [Ao, et, Aah, hux];have ec : Ej s r.kind = x.cond := by unfold Ej; rw [hx]
      have er : Mq s r = [(r.kind : Int), (u.rank : Int), (if u.acked then 1 else 0), (if x.cond then 1 else 0)] := by
       unfold Mq Vh;rw [ec, e2, e3]
      show some (HO.lst (_ ++ [V.int (r.kind : Nat), V.int (u.rank : Nat), V.int (if u.acked then 1 else 0), V.int (if x.cond then 1 else 0)])) = _;rw [Kp, Afi, B8, er, ← Ld, Bb];rfl
   ·rintro σ H' ⟨v4, rfl, k', hL'⟩;rw [J1, Cf] at hL';exact ⟨_, rfl, Ky q rfl T (n3.trans k') nL0 hL'⟩
end
end AT
namespace AT
open Vbdlah
abbrev Jf := Int × List Int
def E9 : List Jf → List Int
 | [] => []
 | x :: l => (x.1 :: x.2) ++ E9 l
def Afm (x : Jf) : Prop := Gm x.1 = some (x.2.length, 0)
def afterH (s : St) (x : Jf) : St := (stepRaw s (x.1 :: x.2)).1
def Ga (s : St) (x : Jf) : List Int := (stepRaw s (x.1 :: x.2)).2
def endH (s : St) : List Jf → St
 | [] => s
 | x :: l => endH (afterH s x) l
def dueH (s : St) : List Jf → List Int
 | [] => []
 | x :: l => ((Ga s x).length : Int) :: (Ga s x ++ dueH (afterH s x) l)
theorem Aew {c : Prop} [Decidable c] {α : Type} {a b : Option α} {x : α} (h : (if c then a else b) = some x) : (c ∧ a = some x) ∨ (¬ c ∧ b = some x) := by
 by_cases q : c
 ·rw [if_pos q] at h; exact .inl ⟨q, h⟩
 ·rw [if_neg q] at h; exact .inr ⟨q, h⟩
def Th (p : Int) (n : Nat) : Prop := (p = 0 ∧ n = 6) ∨ ((p = 1 ∨ p = 2 ∨ p = 12 ∨ p = 22) ∧ n = 2) ∨
 ((p = 3 ∨ p = 4 ∨ p = 5 ∨ p = 6 ∨ p = 7 ∨ p = 8 ∨ p = 9 ∨ p = 10 ∨ p = 13 ∨ p = 14 ∨ p = 19 ∨ p = 23 ∨ p = 25 ∨ p = 26) ∧ n = 1) ∨
 ((p = 11 ∨ p = 15 ∨ p = 16 ∨ p = 17 ∨ p = 18 ∨ p = 20 ∨ p = 21 ∨ p = 24 ∨ p = 27 ∨ p = 28) ∧ n = 0)
theorem shape_width {p : Int} {n k : Nat} (h : Gm p = some (n, k)) : k = 0 ∧ Th p n := by
 unfold Gm at h;have fin : ∀ (z : Int) (m : Nat), p = z → some (m, 0) = some (n, k) → Th z m → k = 0 ∧ Th p n := fun z m e e2 w => by
  obtain ⟨e3, e4⟩ := Prod.mk.inj (Ah e2);subst e e3;exact ⟨e4.symm, w⟩
 iterate 29 (rcases Aew h with ⟨e, h⟩ | ⟨_, h⟩; exact fin _ _ e h (by unfold Th; omega))
 cases h
theorem Sm {p : Int} {n k : Nat} (h : Gm p = some (n, k)) : k = 0 := (shape_width h).1
theorem Adq {c : List (List Int)} (h : PyFlat.okCall Gm c) : Aid c = c := by
 obtain ⟨p, a, xs, rfl, hs⟩ := h;have hx : xs = [] := Tg.mp (Sm hs);subst hx;have w := (shape_width hs).2
 rcases w with ⟨rfl, e⟩ | ⟨w, e⟩ | ⟨w, e⟩ | ⟨w, e⟩
 ·match a, e with
  | [_, _, _, _, _, _], _ => rfl
 ·match a, e with
  | [_, _], _ => rcases w with rfl | rfl | rfl | rfl <;> rfl
 ·match a, e with
  | [_], _ => rcases w with rfl | rfl | rfl | rfl | rfl | rfl | rfl | rfl | rfl | rfl | rfl | rfl | rfl | rfl <;> rfl
 ·match a, e with
  | [], _ => rcases w with rfl | rfl | rfl | rfl | rfl | rfl | rfl | rfl | rfl | rfl <;> rfl
theorem Ajw : ∀ {cs : List (List (List Int))}, (∀ c ∈ cs, PyFlat.okCall Gm c) → ∃ l : List Jf, PyFlat.put cs = E9 l ∧ (∀ x ∈ l, Afm x) ∧ cs.length = l.length ∧ ∀ s, PyFlat.told (PyFlat.played VbdlahNeutral.step s cs) = dueH s l
 | [], _ => ⟨[], rfl, (fun x hx => by cases hx), rfl, fun _ => rfl⟩
 | c :: cs, h => by
  obtain ⟨l, h1, h2, h3, h4⟩ := Ajw (cs := cs) fun d hd => h d (Am _ hd);obtain ⟨p, a, xs, rfl, hs⟩ := h c A0;have hx := Sm hs;have hx : xs = [] := Tg.mp hx;subst hx;refine ⟨(p, a) :: l, ?_, ?_, by simp [h3], fun s => ?_⟩
  ·show ((p :: a) ++ PyFlat.putRows []) ++ PyFlat.put cs = (p :: a) ++ E9 l;rw [h1, show PyFlat.putRows [] = [] from rfl, B8]
  ·intro x hx
   rcases Az.mp hx with rfl | hx
   ·exact hs
   ·exact h2 x hx
  ·show ((Ga s (p, a)).length : Int) :: (Ga s (p, a)) ++ PyFlat.told (PyFlat.played VbdlahNeutral.step (afterH s (p, a)) cs) = _;rw [h4];rfl
theorem asked_hands {l : List Int} (h : PyVbdlah.answers_asked l = true) : ∃ hs : List Jf, l = E9 hs ∧ (∀ x ∈ hs, Afm x) ∧ hs.length ≤ 1000 ∧ PyVbdlah.answers l = dueH Bx hs := by
 unfold PyVbdlah.answers_asked at h;unfold PyVbdlah.answers
 cases hc : PyVbdlah.calls l with
 | none => rw [hc] at h; cases h
 | some cs =>
  rw [hc] at h;have h1 := (Iu _ _ ▸ h).1;have hn : cs.length ≤ 1000 := of_decide_eq_true h1;unfold PyVbdlah.calls at hc
  cases hf : PyFlat.calls Gm l.length l with
  | none => rw [hf] at hc; cases hc
  | some ds =>
   rw [hf] at hc;have e : ds.map Aid = cs := Ah hc;obtain ⟨a1, a2⟩ := PyFlat.put_calls _ _ _ hf;have e2 : ds.map Aid = ds := (Iw fun c hc => Adq (a2 c hc)).trans (List.map_id _);rw [e2] at e;subst e;obtain ⟨hs, b1, b2, b3, b4⟩ := Ajw a2;exact ⟨hs, a1.trans b1, b2, by omega, b4 _⟩
theorem Lx (a b : List Jf) : E9 (a ++ b) = E9 a ++ E9 b := by
 induction a with
 | nil => rfl
 | cons x a ih =>
  show (x.1 :: x.2) ++ E9 (a ++ b) = (x.1 :: x.2) ++ E9 a ++ E9 b;rw [ih, Ho]
theorem Xp (s : St) (a b : List Jf) : endH s (a ++ b) = endH (endH s a) b := by
 induction a generalizing s with
 | nil => rfl
 | cons x a ih => exact ih _
theorem Xq (s : St) (a b : List Jf) : dueH s (a ++ b) = dueH s a ++ dueH (endH s a) b := by
 induction a generalizing s with
 | nil => rfl
 | cons x a ih =>
  show ((Ga s x).length : Int) :: (Ga s x ++ dueH (afterH s x) (a ++ b)) = (((Ga s x).length : Int) :: (Ga s x ++ dueH (afterH s x) a)) ++ dueH (endH (afterH s x) a) b;rw [ih, Ld, Ho]
theorem Well.afterH {s : St} (W : Well s) (x : Jf) : Well (afterH s x) := by
 unfold AT.afterH stepRaw
 split
 ·exact W
 ·exact W.step _
theorem Well.endH : ∀ {s : St} (l : List Jf), Well s → Well (endH s l)
 | _, [], W => W
 | _, x :: l, W => Well.endH l (W.afterH x)
theorem Aas {p : Int} {a : List Int} (h : Afm (p, a)) : ∃ c, decode (p :: a) = some c := by
 have w := (shape_width h).2;simp only at w
 rcases w with ⟨rfl, e⟩ | ⟨w, e⟩ | ⟨w, e⟩ | ⟨w, e⟩
 ·match a, e with
  | [_, _, _, _, _, _], _ => exact ⟨_, rfl⟩
 ·match a, e with
  | [_, _], _ => rcases w with rfl | rfl | rfl | rfl <;> exact ⟨_, rfl⟩
 ·match a, e with
  | [_], _ => rcases w with rfl | rfl | rfl | rfl | rfl | rfl | rfl | rfl | rfl | rfl | rfl | rfl | rfl | rfl <;> exact ⟨_, rfl⟩
 ·match a, e with
  | [], _ => rcases w with rfl | rfl | rfl | rfl | rfl | rfl | rfl | rfl | rfl | rfl <;> exact ⟨_, rfl⟩
theorem Jx {α : Type} {f : α → List Int} {n : Nat} (h : ∀ a, (f a).length ≤ n) : ∀ l : List α, (l.flatMap f).length ≤ n * l.length
 | [] => by simp
 | a :: l => by
  have := Jx h l;have h1 := h a;rw [Kp, A6, A2, Nat.mul_add];omega
theorem Su : ∀ (n : Nat) (s : St), (resets n s).2.length ≤ n
 | 0, s => Ak _
 | n + 1, s => by
  unfold resets
  split
  ·exact B7 _
  ·exact Tf (Su n _)
theorem S1 (s : St) : ∀ (n : Nat) (l : List Nat), (lineUp s n l).length ≤ n
 | 0, l => Ak _
 | n + 1, l => by
  unfold lineUp
  split
  ·exact B7 _
  ·exact Tf (S1 s n _)
theorem Jy (l : List Nat) : (counted l).length = l.length + 1 := by
 unfold counted nats;rw [A2, Ac]
theorem Tc (s : St) (k : Nat) : (behind s k).length ≤ s.kinds.length := by
 unfold behind numbers;have := Cc (fun a => (befores s k).contains a) (Be s.kinds.length)
 rwa [Ct] at this
theorem Well.short {s : St} (W : Well s) (c : Call) : (Ae s c).2.length ≤ 400 := by
 have hl := W.lim;have one : ∀ z : Int, ([z] : List Int).length ≤ 400 := fun _ => by show 1 ≤ 400; decide
 cases c with
 | define =>
  unfold Ae; simp only; repeat' split
  all_goals exact one _
 | link =>
  unfold Ae; simp only; repeat' split
  all_goals exact one _
 | unlink =>
  unfold Ae; simp only; repeat' split
  all_goals exact one _
 | on =>
  unfold Ae; simp only; repeat' split
  all_goals exact one _
 | off =>
  unfold Ae; simp only; repeat' split
  all_goals exact one _
 | sense =>
  unfold Ae; simp only; repeat' split
  all_goals exact one _
 | tick =>
  unfold Ae; simp only; repeat' split
  all_goals exact one _
 | ack =>
  unfold Ae; simp only; repeat' split
  all_goals exact one _
 | ackTo =>
  unfold Ae; simp only; repeat' split
  all_goals exact one _
 | silence =>
  unfold Ae; simp only; repeat' split
  all_goals exact one _
 | reset =>
  unfold Ae; simp only; repeat' split
  all_goals exact one _
 | resetAll =>
  unfold Ae;simp only
  split
  ·exact one _
  ·show (counted (Vbdlah.resetAll s).2).length ≤ 400;have := Su s.kinds.length s;rw [Jy];unfold Vbdlah.resetAll;omega
 | shelve =>
  unfold Ae; simp only; repeat' split
  all_goals exact one _
 | unshelve k =>
  unfold Ae; simp only; repeat' split
  all_goals first | exact one _ | (simp only; split <;> exact one _)
 | clock =>
  unfold Ae; simp only; repeat' split
  all_goals exact one _
 | renew => exact one _
 | sound => exact one _
 | stops => exact one _
 | shown =>
  show (((shown s).length : Int) :: (shown s).flatMap fun r => [(r.kind : Int), (r.rank : Int), bit r.acked, bit (condOf s r.kind)]).length ≤ 400;have h1 : (shown s).length ≤ 32 := by
   have := (E3 (f := ahead) (rowsByNumber s)).length_eq;have h2 := Dq s;unfold shown;omega
  have := Jx (f := fun r : Row => [(r.kind : Int), (r.rank : Int), bit r.acked, bit (condOf s r.kind)]) (n := 4) (fun _ => Ak _) (shown s);rw [A2];omega
 | kind k =>
  unfold Ae;simp only
  split
  ·exact one _
  ·unfold kindNumbers
   split <;> (show 14 ≤ 400; decide)
 | tally => show 5 ≤ 400; decide
 | first => exact one _
 | before =>
  unfold Ae; simp only; repeat' split
  all_goals exact one _
 | behind k =>
  unfold Ae;simp only
  split
  ·exact one _
  ·show (counted (behind s k.toNat)).length ≤ 400;have := Tc s k.toNat;rw [Jy];omega
 | order =>
  show (counted (order s)).length ≤ 400;have := S1 s s.kinds.length (raised s);rw [Jy];unfold Vg;omega
 | why k =>
  unfold Ae;simp only
  repeat' split
  ·exact one _
  ·exact one _
  ·show (_ :: _ :: counted (hinder s k.toNat)).length ≤ 400;have h1 := Tc s k.toNat;have h2 := Cc (fun a => isUp s a) (behind s k.toNat);rw [A2, A2, Jy];unfold hinder;omega
 | log n =>
  unfold Ae;simp only
  split
  ·exact one _
  ·show (((s.log.filter fun e => decide (n ≤ (e.seq : Int))).length : Int) :: (s.log.filter fun e => decide (n ≤ (e.seq : Int))).flatMap fun e => [(e.seq : Int), (e.time : Int), (e.kind : Int), (e.what : Int), (e.rank : Int)]).length ≤ 400;have h1 := Cc (fun e : Event => decide (n ≤ (e.seq : Int))) s.log;have h2 := Jx (f := fun e : Event => [(e.seq : Int), (e.time : Int), (e.kind : Int), (e.what : Int), (e.rank : Int)]) (n := 5) (fun _ => Ak _) (s.log.filter fun e => decide (n ≤ (e.seq : Int)));have h3 := W.len;rw [A2];omega
 | base =>
  show (((s.base).length : Int) :: s.base.flatMap rowNumbers).length ≤ 400;have h1 := Tj W.log.uniq W.low.1;have h2 := Jx (f := rowNumbers) (n := 4) (fun _ => Ak _) s.base;rw [A2];omega
 | time =>
  show ([(s.now : Int), (s.seq : Int)] ++ _).length ≤ 400;rw [A6]
  split <;> (show 4 ≤ 400; decide)
theorem Well.shortH {s : St} (W : Well s) (x : Jf) : (Ga s x).length ≤ 400 := by
 unfold Ga stepRaw
 split
 ·show 1 ≤ 400; decide
 ·exact W.short _
theorem Z7 : ∀ {s : St} (l : List Jf), Well s → (dueH s l).length ≤ 401 * l.length
 | s, [], W => B7 _
 | s, x :: l, W => by
  have h1 := W.shortH x;have h2 := Z7 l (W.afterH x);show (((Ga s x).length : Int) :: (Ga s x ++ dueH (afterH s x) l)).length ≤ 401 * (l.length + 1);rw [A2, A6];omega
end AT
namespace AT
open PySem PySem.Spec PyProof.Rows L2
def Ol (K : Ad) (A : AD) (g : Addr) (H : Hp) (a : Addr) (xs : List V) : Prop :=
 (∃ o, H a = some o ∧ (o = .lst xs ∨ ∃ u, o = .frz u (.lst xs)) ∧ a ∉ A.own ∧ a ≠ g) ∨ ∃ (o : Obj) (its : Array Value) (n : Nat), K.lookup a = some o ∧ o.cls = .type "list" ∧ o.dict = none ∧ o.data = .seq its n ∧ its.size ≤ sizeLine ∧ Cy xs its.toList
section
variable {K : Ad} {A A' : AD} {g a : Addr} {H H' : Hp} {xs : List V}
theorem Ol.sq (h : Ol K A g H a xs) : SqL K H a xs := by
 rcases h with ⟨o, h, rfl | ⟨u, rfl⟩, _⟩ | h
 ·exact .inl (.inl h)
 ·exact .inl (.inr ⟨u, h⟩)
 ·exact .inr h
theorem Ol.of (h : SqL K H a xs) (k : ∀ o, H a = some o → H' a = some o ∧ a ∉ A.own ∧ a ≠ g) : Ol K A g H' a xs := by
 rcases h with (h | ⟨u, h⟩) | h
 ·obtain ⟨h1, h2, h3⟩ := k _ h;exact .inl ⟨_, h1, .inl rfl, h2, h3⟩
 ·obtain ⟨h1, h2, h3⟩ := k _ h;exact .inl ⟨_, h1, .inr ⟨u, rfl⟩, h2, h3⟩
 ·exact .inr h
theorem Ol.notIns {o : HO} (h : o = .lst xs ∨ ∃ u, o = .frz u (.lst xs)) : AT.notIns o := by
 rcases h with rfl | ⟨u, rfl⟩
 ·exact B4
 ·exact fun _ _ _ z => nomatch z
theorem Ol.kept (h : Ol K A g H a xs) (k : Xw A H A' H') : Ol K A' g H' a xs := by
 rcases h with ⟨o, h, ho, h2, h3⟩ | h
 ·obtain ⟨h4, h5⟩ := k _ _ h (Ol.notIns ho) h2;exact .inl ⟨o, h4, ho, h5, h3⟩
 ·exact .inr h
theorem Ol.new (h : Ol K A g H a xs) (k : New H H') : Ol K A g H' a xs := by
 rcases h with ⟨o, h, ho, h2, h3⟩ | h
 ·exact .inl ⟨o, k _ _ h, ho, h2, h3⟩
 ·exact .inr h
theorem Ol.upd {y : HO} (h : Ol K A g H a xs) : Ol K A g (L2.upd H g y) a xs := by
 rcases h with ⟨o, h, ho, h2, h3⟩ | h
 ·exact .inl ⟨o, by rw [Aw h3]; exact h, ho, h2, h3⟩
 ·exact .inr h
end
section
variable {P : Program} {w : World} {K : Ad} {mg : Str → Option Value} {base : Heap} {C : Addr} {c : Cs}
def Adf (P : Program) (w : World) (K : Ad) (mg : Str → Option Value) (base : Heap) (c : Cs) (es ea : List DictEntry) : Prop :=
 ∀ p args call, Afm (p, args) → Vbdlah.decode (p :: args) = some call → ∃ f fd mk, Hu P w K mg base CX0 9 f fd ["table", "numbers"] (Dt c mk) ∧ mk args = some call ∧ Dx K (.ref f) = true ∧ Gw K fd ["table", "numbers"] [] ∧ Eh (if p < 16 then es else ea) p = some (.ref f)
def Kt (c : Cs) (R : Int → Prop) : Sp := fun vs H Q _ => ∃ (A : AD) (s : Al) (nl : Addr) (p : Int) (args : List Int) (call : Co), vs = [.ref A.t, .int p, .ref nl] ∧ Tab c A H s ∧ Well s ∧ H nl = some (.lst (args.map V.int)) ∧ nl ∉ A.own ∧ R p ∧ Afm (p, args) ∧ Vbdlah.decode (p :: args) = some call ∧ Ans c A H s call Q
def Ajm (p : Int) : Prop := p < 16
def Ag9 (p : Int) : Prop := ¬ p < 16
theorem Ab2 : A8 ["table", "place", "numbers"] ["table", "place", "numbers"] (Ar s_change) := by constructor<;>first|rfl|decide +kernel
theorem Abh {aC : Addr} {es ea : List DictEntry} (D : De K mg "change" s_change ["table", "place", "numbers"]) (hm : mg "CALLS_changing" = some (.ref aC)) (kd : KD K aC es) (h29 : Adf P w K mg base c es ea) : Fn P w K mg base "change" 10 ["table", "place", "numbers"] (Kt c Ajm) := by
 refine D.fn fun f fd F => F.ok Ab2 (fun vs H Q E h => ?_) (fun cdv A outer s H vs Q E hr h => ?_)
 ·obtain ⟨A, s, nl, p, args, call, rfl, _⟩ := h;rfl
 ·obtain ⟨A, s, nl, p, args, call, rfl, T, W, hnl, nown, hR, hwi, hdec, q⟩ := h;refine ⟨_, (Ai (A1 (Ze (Du Ad3 (Kd (v := .ref aC) rfl hm rfl) (pv 1) (fun _ _ => rfl)) hr (Aa (pv 0) (Aa (pv 2) Ag))))), ?_⟩;obtain ⟨f, fd, mk, F, hmk, hk, hb, he⟩ := h29 p args call hwi hdec;rw [if_pos (show p < 16 from hR)] at he;refine ⟨_, rfl, aC, es, p, .ref f, .ref f, rfl, rfl, kd, he, rfl, f, fd, _, _, rfl, F, hk, hb, ?_⟩;exact ⟨_, rfl, _, rfl, A, s, nl, args, call, rfl, T, W, hnl, nown, hmk, q⟩
theorem Agu : A8 ["table", "place", "numbers"] ["table", "place", "numbers"] (Ar s_tell) := by constructor<;>first|rfl|decide +kernel
theorem Ahc {aA : Addr} {es ea : List DictEntry} (D : De K mg "tell" s_tell ["table", "place", "numbers"]) (hm : mg "CALLS_asking" = some (.ref aA)) (kd : KD K aA ea) (h29 : Adf P w K mg base c es ea) : Fn P w K mg base "tell" 10 ["table", "place", "numbers"] (Kt c Ag9) := by
 refine D.fn fun f fd F => F.ok Agu (fun vs H Q E h => ?_) (fun cdv A outer s H vs Q E hr h => ?_)
 ·obtain ⟨A, s, nl, p, args, call, rfl, _⟩ := h;rfl
 ·obtain ⟨A, s, nl, p, args, call, rfl, T, W, hnl, nown, hR, hwi, hdec, q⟩ := h;refine ⟨_, (Ai (A1 (Ze (Du Ad3 (Kd (v := .ref aA) rfl hm rfl) (pv 1) (fun _ _ => rfl)) hr (Aa (pv 0) (Aa (pv 2) Ag))))), ?_⟩;obtain ⟨f, fd, mk, F, hmk, hk, hb, he⟩ := h29 p args call hwi hdec;rw [if_neg (show ¬ p < 16 from hR)] at he;refine ⟨_, rfl, aA, ea, p, .ref f, .ref f, rfl, rfl, kd, he, rfl, f, fd, _, _, rfl, F, hk, hb, ?_⟩;exact ⟨_, rfl, _, rfl, A, s, nl, args, call, rfl, T, W, hnl, nown, hmk, q⟩
def anyP (_ : Int) : Prop := True
theorem Ab3 : A8 ["table", "place", "numbers"] ["table", "place", "numbers"] (Ar s_answer) := by constructor<;>first|rfl|decide +kernel
theorem Abj (D : De K mg "answer" s_answer ["table", "place", "numbers"]) (M : Tops mg) (DC : Fn P w K mg base "change" 10 ["table", "place", "numbers"] (Kt c Ajm)) (DT : Fn P w K mg base "tell" 10 ["table", "place", "numbers"] (Kt c Ag9)) : Fn P w K mg base "answer" 11 ["table", "place", "numbers"] (Kt c anyP) := by
 refine D.fn fun f fd F => F.ok Ab3 (fun vs H Q E h => ?_) (fun cdv A outer s H vs Q E hr h => ?_)
 ·obtain ⟨A, s, nl, p, args, call, rfl, _⟩ := h;rfl
 ·obtain ⟨A, s, nl, p, args, call, rfl, T, W, hnl, nown, _, hwi, hdec, q⟩ := h;refine ⟨_, (Ab (Ca (B6 Kb (pv 1) (C7 M.FIRST_ASKING_PLACE rfl) (Cq _)) (Ai (A1 (Br DC (hr.mono (by decide)) rfl (Aa (pv 0) (Aa (pv 1) (Aa (pv 2) Ag)))))) Bg)
   (Ai (A1 (Br DT (hr.mono (by decide)) rfl (Aa (pv 0) (Aa (pv 1) (Aa (pv 2) Ag))))))), ?_⟩
  refine ⟨_, rfl, _, _, rfl, rfl, _, rfl, Cm (fun h1 => ?_) (fun h1 => ?_)⟩
  ·exact ⟨_, rfl, _, rfl, _, rfl, A, s, nl, p, args, call, rfl, T, W, hnl, nown, of_decide_eq_true (p := p < 16) h1, hwi, hdec, q⟩
  ·exact ⟨_, rfl, _, rfl, _, rfl, A, s, nl, p, args, call, rfl, T, W, hnl, nown, fun z => h1 (decide_eq_true (p := p < 16) z), hwi, hdec, q⟩
def spAnswers (K : Ad) : Sp := fun vs H Q _ => ∃ (a : Addr) (hs : List Jf), vs = [.ref a] ∧ SqL K H a ((E9 hs).map V.int) ∧ (∀ x ∈ hs, Afm x) ∧ hs.length ≤ 1000 ∧
 ∀ (H' : Hp) (p : Addr), H' p = some (.lst ((dueH Bx hs).map V.int)) → Q (.ref p) H'
def Agf (es : List DictEntry) : Prop := ∀ p n, Gm p = some (n, 0) → ∃ t, Eh es p = some (.int (n : Nat) t)
theorem Afa {d : List Jf} {x : Jf} {r : List Jf} : Afb ((E9 (d ++ x :: r)).map V.int) (some ((((E9 d).length : Nat) : Int) + 1)) (some ((((E9 d).length : Nat) : Int) + 1 + (x.2.length : Nat))) = x.2.map V.int := by
 have e : E9 (d ++ x :: r) = (E9 d ++ [x.1]) ++ (x.2 ++ E9 r) := by
  rw [Lx];show E9 d ++ ((x.1 :: x.2) ++ E9 r) = _;simp
 have h1 : ((((E9 d).length : Nat) : Int) + 1) = (((E9 d).length + 1 : Nat) : Int) := by omega
 have h2 : ((((E9 d).length : Nat) : Int) + 1 + (x.2.length : Nat)) = (((E9 d).length + 1 + x.2.length : Nat) : Int) := by omega
 unfold Afb;rw [h2, h1, HT.sIx_nat, HT.sIx_nat, e];simp only [Ac, A6, A2, Fz];rw [Nat.min_eq_left (by omega), Nat.min_eq_left (by omega)];rw [Bb, List.drop_left' (by simp), Bb];rw [show (E9 d).length + 1 + x.2.length - ((E9 d).length + 1) = (x.2.map V.int).length by rw [Ac]; omega];exact List.take_left
theorem Ai4 {d : List Jf} {x : Jf} {r : List Jf} : ((E9 (d ++ x :: r)).map V.int)[(E9 d).length]? = some (.int x.1) := by
 rw [Lx, Ap, Dz (Ak _), Oq];rfl
theorem Z3 {d : List Jf} {x : Jf} {r : List Jf} : (E9 (d ++ x :: r)).length = (E9 d).length + 1 + x.2.length + (E9 r).length := by
 rw [Lx];show (E9 d ++ ((x.1 :: x.2) ++ E9 r)).length = _;simp only [A6, A2];omega
theorem Yt {n : Nat} (h : n ≤ 401401) : n < sizeLine := Aam h (by decide)
theorem F2 : A8 ["calls", "table", "given", "at", "place", "behind", "answered"] ["calls"] (Ar s_answers) := by constructor<;>first|rfl|decide +kernel
theorem Zk {aW f : Addr} {fd : FuncData} {es : List DictEntry} (F : Fun K "answers" "answers" s_answers f fd) (M : Tops mg) (hm : mg "WIDTHS" = some (.ref aW)) (kd : KD K aW es) (hW : Agf es) (DT : Ma P w K mg base c.T "Table" 3 ["self"] (Acg c))
  (DA : Fn P w K mg base "answer" 11 ["table", "place", "numbers"] (Kt c anyP)) : Hu P w K mg base CX0 12 f fd ["calls"] (spAnswers K) := by
 refine F.ok F2 (fun vs H Q E h => ?_) (fun cdv A outer s H vs Q E hr h => ?_)
 ·obtain ⟨a, hs, rfl, _⟩ := h;rfl
 ·obtain ⟨a, hs, rfl, hS, hwi, hlen, q⟩ := h;refine ⟨_, (Ab (Bf (i := 1) F2.nd rfl (A7 rfl) (Za DT (hr.mono (by decide)) rfl))
   (Ab (Bf (i := 2) F2.nd rfl (A7 rfl) (Bl Ag))
   (Ab (Bf (i := 3) F2.nd rfl (A7 rfl) Ax)
   (Ab (M3 PassesOwn.never (B6 Kb (pv 3) (C1 C2 (by rfl) M.no_len Cw (Aa (pv 0) Ag)) (Cq _))
    (Ab (Bf (i := 4) F2.nd rfl (A7 rfl) (Du Cr (pv 0) (pv 3) (fun _ _ => rfl)))
    (Ab (Bf (i := 5) F2.nd rfl (A7 rfl) (Et J9 (Et J9 (pv 3) Ax) (Du Ad3 (Kd (v := .ref aW) rfl hm rfl) (pv 4) (fun _ _ => rfl))))
    (Ab (Bf (i := 6) F2.nd rfl (A7 rfl) (Br DA (hr.mono (by decide)) rfl (Aa (pv 1) (Aa (pv 4) (Aa (Ae8 Agr (pv 0) (Acv (Et J9 (pv 3) Ax)) (Acv (pv 5))) Ag)))))
    (Ab (Cv (M6 B1 E2 E1 Jb (pv 2) (Aa (C1 C2 (by rfl) M.no_len Cw (Aa (pv 6) Ag)) Ag)))
    (Ab (Cv (M6 B1 Jh Jg Nh (pv 2) (Aa (pv 6) Ag)))
    (Ai (Bf (i := 3) F2.nd rfl (A7 rfl) (pv 5)))))))))
   (Ai (A1 (pv 2))))))), ?_⟩
  intro t dx nx ndx nex;refine ⟨t, rfl, Ob0.start, fun H1 A T hAt fr b1 => ⟨rfl, ?_⟩⟩;subst hAt;have n1 : New H H1 := P7 nx ndx b1;have f0 : ∀ b ∈ A.own, H b = none := fun b hb => by
   have fb := fr b hb
   by_cases e : b = A.t
   ·rw [e]; exact nx
   ·by_cases e' : b = dx
    ·rw [e']; exact ndx
    ·rw [← fb, Aw e, Aw e']
  refine ⟨B7 _, fun g ng => ?_⟩;have n2 : New H1 (upd H1 g (.lst [])) := New.upd ng;have hg : upd H1 g (.lst []) g = some (.lst []) := Ao;generalize upd H1 g (.lst []) = H2 at n2 hg;have T2 := T.same n2;have gown : g ∉ A.own := T.apart ng;have Hd : Ol K A g H2 a ((E9 hs).map V.int) := Ol.of hS fun o ho => ⟨n2 _ _ (n1 _ _ ho), fun z => (by rw [f0 a z] at ho; cases ho), Av (n1 _ _ ho) ng⟩
  let Inv0 : Nat → L2.St → Hp → Prop := fun m σ H' => ∃ (done rest : List Jf) (A' : AD) (v4 v5 v6 : Option V), hs = done ++ rest ∧ m = rest.length ∧ A'.t = A.t ∧ σ = [some (.ref a), some (.ref A.t), some (.ref g), some (.int ((E9 done).length : Nat)), v4, v5, v6] ∧ Tab c A' H' (endH Bx done) ∧ Ol K A' g H' a ((E9 hs).map V.int) ∧ H' g = some (.lst ((dueH Bx done).map V.int)) ∧ g ∉ A'.own
  refine ⟨Inv0, ⟨hs.length, [], hs, A, none, none, none, rfl, rfl, rfl, rfl, T2, Hd, hg, gown⟩, ?_⟩;rintro m σ H3 ⟨done, rest, A', v4, v5, v6, ehs, rfl, eA, rfl, T3, Hd3, hg3, gown3⟩;have W3 : Well (endH Bx done) := Well.start.endH done;have ldone : done.length + rest.length ≤ 1000 := by rw [ehs, A6] at hlen; exact hlen
  refine ⟨_, rfl, _, rfl, a, _, rfl, .inl Hd3.sq, _, _, rfl, rfl, _, rfl, Cm (fun hlt => ?_) (fun hlt => ?_)⟩
  ·have hlt := of_decide_eq_true hlt;rw [Ac] at hlt
   match rest, ehs, ldone with
   | [], ehs, _ =>
    rw [B8] at ehs;rw [ehs] at hlt;omega
   | x :: rest, ehs, ldone =>
    have hx := hwi x (by rw [ehs]; exact Cb _ A0);obtain ⟨tw, hw⟩ := hW x.1 _ hx;obtain ⟨call, hcall⟩ := Aas hx;refine ⟨fun σ' H' => ∃ m', m' < (x :: rest).length ∧ Inv0 m' σ' H', fun _ _ h => h, ?_⟩;refine ⟨_, rfl, _, rfl, a, _, _, _, rfl, rfl, Hd3.sq, Ew (j := (E9 done).length) (v := V.int x.1) rfl (by rw [ehs]; exact Ai4), ?_⟩;refine ⟨_, rfl, _, _, rfl, rfl, _, rfl, aW, es, _, .int (x.2.length : Nat), _, rfl, rfl, kd, hw, ⟨tw, rfl⟩, _, _, rfl, rfl, ?_⟩;refine ⟨_, rfl, _, rfl, _, rfl, _, rfl, _, _, rfl, rfl, _, rfl, _, rfl, _, rfl, a, _, rfl, Hd3.sq, fun nl nnl => ?_⟩;have ec : Afb ((E9 hs).map V.int) (some ((((E9 done).length : Nat) : Int) + 1)) (some ((((E9 done).length : Nat) : Int) + 1 + (x.2.length : Nat))) = x.2.map V.int := by rw [ehs]; exact Afa
    rw [ec];have n4 : New H3 (upd H3 nl (.lst (x.2.map V.int))) := New.upd nnl;have hnl : upd H3 nl (.lst (x.2.map V.int)) nl = some (.lst (x.2.map V.int)) := Ao;generalize upd H3 nl (.lst (x.2.map V.int)) = H4 at n4 hnl;have T4 := T3.same n4;refine ⟨A', _, nl, x.1, x.2, call, by rw [eA]; rfl, T4, W3, hnl, T3.apart nnl, trivial, hx, hcall, fun H5 A5 p T5 eA5 k5 hp5 pown pnew => ?_⟩;have es1 : Ae (endH Bx done) call = (afterH (endH Bx done) x, Ga (endH Bx done) x) := by
     unfold afterH Ga Vbdlah.stepRaw;rw [hcall]
    rw [es1] at T5 hp5;simp only at T5 hp5;have Hd5 := (Hd3.new n4).kept k5;have hg4 := n4 _ _ hg3;obtain ⟨hg5, gown5⟩ := k5 _ _ hg4 B4 gown3;have npg : g ≠ p := pnew g _ hg4 B4 gown3;have l1 := Z7 done Well.start;have l2 := W3.shortH x;have ldone : done.length + (rest.length + 1) ≤ 1000 := ldone;refine ⟨_, rfl, .inl ⟨rfl, _, SqL.of hg5⟩, _, rfl, p, _, rfl, .inl (SqL.of hp5), g, _, _, rfl, rfl, hg5, Yt (by rw [Ac]; omega), ?_⟩;have T6 := T5.list (ys := (dueH Bx done).map V.int ++ [V.int (((Ga (endH Bx done) x).map V.int).length : Nat)]) hg5 gown5;have Hd6 := Hd5.upd (y := .lst ((dueH Bx done).map V.int ++ [V.int (((Ga (endH Bx done) x).map V.int).length : Nat)]));have hg6 : upd H5 g (.lst ((dueH Bx done).map V.int ++ [V.int (((Ga (endH Bx done) x).map V.int).length : Nat)])) g = some (.lst ((dueH Bx done).map V.int ++ [V.int (((Ga (endH Bx done) x).map V.int).length : Nat)])) := Ao;have hp6 : upd H5 g (.lst ((dueH Bx done).map V.int ++ [V.int (((Ga (endH Bx done) x).map V.int).length : Nat)])) p = some (.lst ((Ga (endH Bx done) x).map V.int)) := by rw [Aw npg.symm]; exact hp5
    generalize upd H5 g (.lst ((dueH Bx done).map V.int ++ [V.int (((Ga (endH Bx done) x).map V.int).length : Nat)])) = H6 at T6 Hd6 hg6 hp6;refine ⟨_, rfl, .inl ⟨rfl, _, SqL.of hg6⟩, _, rfl, g, p, _, _, rfl, rfl, hg6, hp6, En (Yt (by simp only [A6, Ac, A2, Fz]; omega)), ?_⟩;refine ⟨_, rfl, rest.length, Lc _, done ++ [x], rest, A5, some (V.int x.1), some (V.int ((((E9 done).length : Nat) : Int) + 1 + ((x.2.length : Nat) : Int))), some (V.ref p), by rw [ehs, Ho]; rfl, rfl, eA5.trans eA, ?_, ?_, Hd6.upd, ?_, gown5⟩
    ·have e : (((E9 done).length : Nat) : Int) + 1 + ((x.2.length : Nat) : Int) = (((E9 (done ++ [x])).length : Nat) : Int) := by
      rw [Z3];show _ = (((E9 done).length + 1 + x.2.length + 0 : Nat) : Int);omega
     rw [← e];rfl
    ·rw [Xp];exact T6.list hg6 gown5
    ·rw [Ao, Xq]
     congr 2
     simp only [Bb, Ho, Ac]
     congr 1
     show V.int _ :: (List.map V.int (Ga (endH Bx done) x)) = List.map V.int (((Ga (endH Bx done) x).length : Int) :: (Ga (endH Bx done) x ++ []));rw [B8];rfl
  ·have hge : ¬ (((E9 done).length : Nat) : Int) < ((((E9 hs).map V.int).length : Nat) : Int) := fun z => hlt (decide_eq_true z);rw [Ac] at hge
   match rest, ehs with
   | x :: rest, ehs =>
    rw [ehs, Z3] at hge;omega
   | [], ehs =>
    rw [B8] at ehs;subst ehs;exact ⟨_, rfl, q _ g hg3⟩
end
section
variable {prog : Program} {w : World} {A : Around} {E : Value → Shared → Prop} {s : Shared}
theorem Aep {it t : Addr} {i : Nat} {items : Array Value} {x : Value} {Q : Value → Shared → Prop} (hit : s.heap.IsTupleIter it t i) (ht : s.heap.IsTuple t items) (hx : items[i]? = some x)
  (hQ : ∀ h', h'.IsTupleIter it t (i + 1) → Heap.SameBut it s.heap h' → Q x { s with heap := h' }) : wpAny (model prog w) A (Builtin.SmallTypes.nextOf (.ref it)) Q E s := by
 obtain ⟨o, ho, hc, hd⟩ := id hit;obtain ⟨ol, hol, _, nl, hdl⟩ := ht;unfold Builtin.SmallTypes.nextOf
 apply wpAny_bind
 apply wpAny_callSpecial?_slot (name := Str.ofString "__next__") hit.typeIs F.slot_tuple_iterator_next
 apply wpAny_call_entry F.slot_tuple_iterator_next hit.typeIs F.entry_tuple_iterator_next _ (F.args_tuple_iterator_next_1 _)
 apply wpAny_bind (wpAny_field ho hd (x := .ref t) rfl _); rw [if_neg (show ¬ ((Value.ref t == Value.none) = true) from Bp)]
 apply wpAny_bind (wpAny_field ho hd (x := .int i 0) rfl _); apply wpAny_bind (wpAny_seqItems hol hdl _)
 simp only [D8, hx]
 apply wpAny_bind; apply wpAny_setField ho hd (by simp); refine wpAny_pure ⟨x, rfl, wpAny_pure (hQ _ ?_ (Heap.SameBut.update ..))⟩
 exact ⟨_, Heap.get?_update_self _ ho (Obj.isFreed_of_fields (Obj.data_mapFields hd _)), (Obj.cls_mapFields ..).trans hc, by rw [Obj.data_mapFields hd]; simp [rawInt]⟩
theorem Aar {z TI TO i1 i2 l1 l2 : Addr} {k1 k2 : Nat} {xs ys : Array Value} {x y a b : Value} {Q : Option Value → Shared → Prop} (D : ZipApart z TI TO i1 i2 l1 l2)
  (hz : IsZip s.heap z TI TO .none) (hTI : IsPair s.heap TI (.ref i1) (.ref i2)) (hTO : IsPair s.heap TO a b) (h1 : s.heap.IsListIter i1 l1 k1) (h2 : s.heap.IsTupleIter i2 l2 k2) (hl1 : s.heap.IsList l1 xs) (hl2 : s.heap.IsTuple l2 ys) (hx : xs[k1]? = some x) (hy : ys[k2]? = some y)
  (hQ : ∀ h', IsZip h' z TI TO (rawInt s.heap.objs.size) → IsPair h' TO x y → h'.IsListIter i1 l1 (k1 + 1) → h'.IsTupleIter i2 l2 (k2 + 1) → IsPair h' s.heap.objs.size x y → (∀ c o, c ≠ z → c ≠ TO → c ≠ i1 → c ≠ i2 → s.heap.get? c = some o → h'.get? c = some o) → Q (some (.ref s.heap.objs.size)) { s with heap := h' }) :
  wpAny (model prog w) A (pyNext (.ref z)) Q E s := by
 have hT : s.TypeIs (.ref z) "zip" := ⟨_, hz, rfl⟩;unfold pyNext
 apply wpAny_bind; apply wpAny_attempt; apply wpAny_callSpecial?_slot (name := Str.ofString "__next__") hT F.slot_zip_next
 apply wpAny_call_entry F.slot_zip_next hT F.entry_zip_next _ (F.args_zip_next_1 _)
 apply wpAny_bind (wpAny_field hz rfl (x := .bool false) rfl _)
 apply wpAny_bind (wpAny_field hz rfl (x := .ref TI) rfl _)
 apply wpAny_bind (wpAny_seqItems hTI rfl _)
 apply wpAny_bind; unfold Builtin.SmallTypes.ownedTupleIsFree
 refine wpAny_bind (wpAny_field hz rfl (x := .none) rfl ?_); refine wpAny_pure ?_; simp only [if_true]
 apply wpAny_bind (wpAny_rule _); apply wpAny_bind (wpAny_field hz rfl (x := .ref TO) rfl _)
 apply wpAny_bind; refine wpAny_setField_rec hz (by simp) fun g1 z1 s1 => ?_
 replace z1 : IsZip g1 z TI TO .ellipsis := z1
 apply wpAny_bind; simp only [List.zipIdx_cons, List.zipIdx_nil, Agl, Xz]
 apply wpAny_bind; apply wpAny_bind; apply wpAny_onRaise; apply wpAny_bind
 refine wpAny_nextOf_list_item (h1.extBut s1.extBut D.i1z) (hl1.extBut s1.extBut D.l1z) hx fun g2 a2 s2 => wpAny_pure ?_;have t2 : IsPair g2 TO a b := s2.extBut _ _ D.TOi1 (s1.extBut _ _ D.TOz hTO)
 apply wpAny_bind (wpAny_seqItems t2 rfl _); apply wpAny_bind; refine wpAny_updateSeq_pair t2 fun g3 t3 s3 => ?_
 replace t3 : IsPair g3 TO x b := t3
 apply wpAny_bind; refine wpAny_letGo (wpAny_pure ?_)
 apply wpAny_bind; apply wpAny_bind; apply wpAny_onRaise; apply wpAny_bind
 refine Aep (((h2.extBut s1.extBut D.i2z).extBut s2.extBut D.i12.symm).extBut s3.extBut D.TOi2.symm) (((hl2.extBut s1.extBut D.l2z).extBut s2.extBut D.l2i1).extBut s3.extBut D.l2TO) hy fun g4 a4 s4 => wpAny_pure ?_;have t4 : IsPair g4 TO x b := s4.extBut _ _ D.TOi2 t3
 apply wpAny_bind (wpAny_seqItems t4 rfl _); apply wpAny_bind; refine wpAny_updateSeq_pair t4 fun g5 t5 s5 => ?_
 replace t5 : IsPair g5 TO x y := t5
 apply wpAny_bind; refine wpAny_letGo (wpAny_pure (wpAny_pure ?_))
 apply wpAny_bind (wpAny_seqItems t5 rfl _); apply wpAny_bind; refine wpAny_newTuple ?_
 have sz : g5.objs.size = s.heap.objs.size := by rw [s5.1, s4.1, s3.1, s2.1, s1.1]
 have z5 : IsZip g5 z TI TO .ellipsis := s5.extBut _ _ D.TOz.symm (s4.extBut _ _ D.i2z.symm (s3.extBut _ _ D.TOz.symm (s2.extBut _ _ D.i1z.symm z1)));have k5 : ∀ c o, c ≠ z → c ≠ TO → c ≠ i1 → c ≠ i2 → s.heap.get? c = some o → g5.get? c = some o := fun c o c1 c2 c3 c4 e => s5.extBut _ _ c2 (s4.extBut _ _ c4 (s3.extBut _ _ c2 (s2.extBut _ _ c3 (s1.extBut _ _ c1 e))));have b1 : g5.IsListIter i1 l1 (k1 + 1) := ((a2.extBut s3.extBut D.TOi1.symm).extBut s4.extBut D.i12).extBut s5.extBut D.TOi1.symm;have b2 : g5.IsTupleIter i2 l2 (k2 + 1) := a4.extBut s5.extBut D.TOi2.symm;have zlt : z < g5.objs.size := Heap.lt_size z5
 apply wpAny_bind; unfold Builtin.SmallTypes.ownedTupleHandOut
 have z6 : IsZip (g5.push { cls := .type "tuple", data := .seq #[x, y] }) z TI TO .ellipsis := Heap.get?_push_of_some _ z5
 apply wpAny_bind; refine wpAny_setField_rec z6 (by simp) fun g7 z7 s7 => ?_
 replace z7 : IsZip g7 z TI TO (rawInt g5.objs.size) := z7
 refine wpAny_setField_rec z7 (by simp) fun g8 z8 s8 => ?_
 replace z8 : IsZip g8 z TI TO (rawInt g5.objs.size) := z8
 have up : ∀ c o, c ≠ z → g5.get? c = some o → g8.get? c = some o := fun c o c1 e => s8.extBut _ _ c1 (s7.extBut _ _ c1 (Heap.get?_push_of_some _ e));have p8 : IsPair g8 g5.objs.size x y := s8.extBut _ _ (Vl zlt) (s7.extBut _ _ (Vl zlt) (Heap.get?_push_size _ rfl));rw [sz] at z8 p8;refine wpAny_pure ⟨_, rfl, wpAny_pure ?_⟩;show Q (some (.ref g5.objs.size)) _;rw [sz];exact hQ g8 z8 (up _ _ D.TOz t5) (let ⟨o, e, r⟩ := b1; ⟨o, up _ o D.i1z e, r⟩) (let ⟨o, e, r⟩ := b2; ⟨o, up _ o D.i2z e, r⟩) p8 fun c o c1 c2 c3 c4 e => up c o c1 (k5 c o c1 c2 c3 c4 e)
theorem Adp {z TI TO i1 i2 l1 l2 : Addr} {k1 : Nat} {xs : Array Value} {Q : Option Value → Shared → Prop} (hh : A.handled = none) (D : ZipApart z TI TO i1 i2 l1 l2)
  (hz : IsZip s.heap z TI TO .none) (hTI : IsPair s.heap TI (.ref i1) (.ref i2)) (h1 : s.heap.IsListIter i1 l1 k1) (hl1 : s.heap.IsList l1 xs) (hend : xs[k1]? = none)
  (hQ : ∀ h', (∀ c o, c ≠ z → c ≠ TO → c ≠ i1 → c ≠ i2 → s.heap.get? c = some o → h'.get? c = some o) → Q none { s with heap := h' }) : wpAny (model prog w) A (pyNext (.ref z)) Q E s := by
 have hT : s.TypeIs (.ref z) "zip" := ⟨_, hz, rfl⟩;unfold pyNext
 apply wpAny_bind; apply wpAny_attempt; apply wpAny_callSpecial?_slot (name := Str.ofString "__next__") hT F.slot_zip_next
 apply wpAny_call_entry F.slot_zip_next hT F.entry_zip_next _ (F.args_zip_next_1 _)
 apply wpAny_bind (wpAny_field hz rfl (x := .bool false) rfl _)
 apply wpAny_bind (wpAny_field hz rfl (x := .ref TI) rfl _)
 apply wpAny_bind (wpAny_seqItems hTI rfl _)
 apply wpAny_bind; unfold Builtin.SmallTypes.ownedTupleIsFree
 refine wpAny_bind (wpAny_field hz rfl (x := .none) rfl ?_); refine wpAny_pure ?_; simp only [if_true]
 apply wpAny_bind (wpAny_rule _); apply wpAny_bind (wpAny_field hz rfl (x := .ref TO) rfl _)
 apply wpAny_bind; refine wpAny_setField_rec hz (by simp) fun g1 z1 s1 => ?_
 replace z1 : IsZip g1 z TI TO .ellipsis := z1
 apply wpAny_bind; simp only [List.zipIdx_cons, List.zipIdx_nil, Agl, Xz]
 apply wpAny_bind; apply wpAny_bind; apply wpAny_onRaise; apply wpAny_bind
 refine wpAny_nextOf_list_end hh (h1.extBut s1.extBut D.i1z) (hl1.extBut s1.extBut D.l1z) hend fun g2 e s2 he => ?_;obtain ⟨oe, hoe, hce⟩ := he;have z2 : IsZip g2 z TI TO .ellipsis := s2 _ _ D.i1z.symm z1;have ez : e ≠ z := fun q => by subst q; rw [z2] at hoe; cases hoe; simp at hce
 refine wpAny_setField_rec z2 (by simp) fun g3 _ s3 => ?_;have k3 : ∀ c o, c ≠ z → c ≠ TO → c ≠ i1 → c ≠ i2 → s.heap.get? c = some o → g3.get? c = some o := fun c o c1 _ c3 _ q => s3.extBut _ _ c1 (s2 _ _ c3 (s1.extBut _ _ c1 q))
 apply wpAny_bind; refine wpAny_isInstance (T := "StopIteration") (b := true) ⟨oe, s3.extBut _ _ ez hoe, hce⟩ isSubtype_stop ?_
 exact wpAny_pure (hQ _ k3)
abbrev zT1 (h : Heap) (l1 : Addr) : Heap := h.push { cls := .type "list_iterator", data := .fields #[.ref l1, .int 0 0] }
abbrev zT2 (h : Heap) (l1 l2 : Addr) : Heap := (zT1 h l1).push { cls := .type "tuple_iterator", data := .fields #[.ref l2, .int 0 0] }
abbrev zT3 (h : Heap) (l1 l2 : Addr) : Heap := (zT2 h l1 l2).push { cls := .type "tuple", data := .seq #[.ref h.objs.size, .ref (zT1 h l1).objs.size] }
abbrev zT4 (h : Heap) (l1 l2 : Addr) : Heap := (zT3 h l1 l2).push { cls := .type "tuple", data := .seq #[.none, .none] }
abbrev zT5 (h : Heap) (l1 l2 : Addr) : Heap := (zT4 h l1 l2).push { cls := .type "zip", data := .fields #[.none, .bool false, .bool false, .ref (zT2 h l1 l2).objs.size, .ref (zT3 h l1 l2).objs.size] }
theorem Ado (l1 l2 : Addr) (xs ys : Array Value) : Meets (Builtin.«zip.__new__» ⟨[.type "zip", .ref l1, .ref l2], []⟩) (fun _ R s => s.heap.IsList l1 xs ∧ s.heap.IsTuple l2 ys ∧ R (.ok (.ret (.ref (zT4 s.heap l1 l2).objs.size))) { s with heap := zT5 s.heap l1 l2 }) :=
 .of_wp fun prog w A R s h => by
  obtain ⟨hp, g, d, tk, os⟩ := s; obtain ⟨hl1, hl2, h⟩ := h;have hsub := sub_zip;have q1 : Heap.IsList (Shared.heap ⟨hp, g, d, tk, os⟩) l1 xs := hl1;have q2 : Heap.IsTuple (Shared.heap ⟨hp.push { cls := .type "list_iterator", data := .fields #[.ref l1, .int 0 0] }, g, d, tk, os⟩) l2 ys := Heap.IsTuple.push hl2 _
  wp_walk using wpAny_pyIter_list q1, wpAny_pyIter_tuple q2
  exact ⟨_, rfl, h⟩
theorem Ac3 {l1 l2 : Addr} {xs ys : Array Value} {Q : Value → Shared → Prop} (hl1 : s.heap.IsList l1 xs) (hl2 : s.heap.IsTuple l2 ys)
  (h : ∀ h', IsZip h' (s.heap.objs.size + 4) (s.heap.objs.size + 2) (s.heap.objs.size + 3) .none → IsPair h' (s.heap.objs.size + 2) (.ref s.heap.objs.size) (.ref (s.heap.objs.size + 1)) → IsPair h' (s.heap.objs.size + 3) .none .none →
   h'.IsListIter s.heap.objs.size l1 0 → h'.IsTupleIter (s.heap.objs.size + 1) l2 0 → (∀ c o, s.heap.get? c = some o → h'.get? c = some o) → Q (.ref (s.heap.objs.size + 4)) { s with heap := h' }) : wpAny (model prog w) A (call (.type "zip") [.ref l1, .ref l2]) Q E s := by
 apply callType_new F.called_zip (by decide) (F.typeCall_zip_2 _ _) (F.newCall_zip_2 _ _) (fun obj => F.args_object_init_3 obj _ _) F.entry_zip_new (Ado l1 l2 xs ys)
 refine ⟨hl1, hl2, ?_⟩;have n1 : (zT1 s.heap l1).objs.size = s.heap.objs.size + 1 := Heap.size_push ..;have n2 : (zT2 s.heap l1 l2).objs.size = s.heap.objs.size + 2 := by rw [Heap.size_push, n1]
 have n3 : (zT3 s.heap l1 l2).objs.size = s.heap.objs.size + 3 := by rw [Heap.size_push, n2]
 have n4 : (zT4 s.heap l1 l2).objs.size = s.heap.objs.size + 4 := by rw [Heap.size_push, n3]
 have up : ∀ {g : Heap} {o o' : Obj} {c : Addr}, g.get? c = some o → (g.push o').get? c = some o := fun e => Heap.get?_push_of_some _ e;have g5 : (zT5 s.heap l1 l2).get? (zT4 s.heap l1 l2).objs.size = some _ := Heap.get?_push_size _ rfl;have g4 : (zT5 s.heap l1 l2).get? (zT3 s.heap l1 l2).objs.size = some _ := up (Heap.get?_push_size _ rfl);have g3 : (zT5 s.heap l1 l2).get? (zT2 s.heap l1 l2).objs.size = some _ := up (up (Heap.get?_push_size _ rfl));have g2 : (zT5 s.heap l1 l2).get? (zT1 s.heap l1).objs.size = some _ := up (up (up (Heap.get?_push_size _ rfl)));have g1 : (zT5 s.heap l1 l2).get? s.heap.objs.size = some _ := up (up (up (up (Heap.get?_push_size _ rfl))));show _ ∧ _;rw [n2, n3, n4] at g5; rw [n1, n2] at g3; rw [n3] at g4; rw [n1] at g2; rw [n4];exact ⟨⟨_, g5, rfl⟩, h _ g5 g3 g4 ⟨_, g1, rfl, rfl⟩ ⟨_, g2, rfl, rfl⟩ fun c o q => up (up (up (up (up q))))⟩
end
def Aic (K : Ad) (a b : Addr) : It :=
 ⟨fun i H => ∃ (xs ys : List V) (x y : V), SqL K H a xs ∧ SqT K H b ys ∧ xs[i]? = some x ∧ ys[i]? = some y,
  fun i H v H' => ∃ T x y, v = .ref T ∧ H T = none ∧ H' = upd H T (.tup [x, y]) ∧ (∀ xs, SqL K H a xs → xs[i]? = some x) ∧ ∀ ys, SqT K H b ys → ys[i]? = some y,
  fun i H => ∃ xs : List V, SqL K H a xs ∧ xs.length ≤ i⟩
theorem Aau {P : Program} {w : World} {K : Ad} {elts : List Expr} {kk : Nat} {tpos : Pos} {a b z TI TO i1 i2 : Addr} (D : ZipApart z TI TO i1 i2 a b) :
  Afe P w K (.Tuple elts kk tpos) (Aic K a b) [z, TI, TO, i1, i2] z (fun i h => IsZip h z TI TO .none ∧ IsPair h TI (.ref i1) (.ref i2) ∧ (∃ x y, IsPair h TO x y) ∧ h.IsListIter i1 a i ∧ h.IsTupleIter i2 b i) where
 mem := by simp
 obj := fun i h st c hc => by
  obtain ⟨hz, hTI, ⟨x, y, hTO⟩, ⟨o1, e1, _, d1⟩, ⟨o2, e2, _, d2⟩⟩ := st;have e' : c = z ∨ c = TI ∨ c = TO ∨ c = i1 ∨ c = i2 := by simpa using hc
  rcases e' with q | q | q | q | q
  ·rw [q]; exact ⟨_, hz, fun v q => nomatch q⟩
  ·rw [q]; exact ⟨_, hTI, fun v q => nomatch q⟩
  ·rw [q]; exact ⟨_, hTO, fun v q => nomatch q⟩
  ·rw [q]; exact ⟨o1, e1, fun v q => by rw [d1] at q; cases q⟩
  ·rw [q]; exact ⟨o2, e2, fun v q => by rw [d2] at q; cases q⟩
 keep := fun i h h' st k => by
  obtain ⟨hz, hTI, ⟨x, y, hTO⟩, h1, h2⟩ := st;exact ⟨k z (by simp) _ hz, k TI (by simp) _ hTI, ⟨x, y, k TO (by simp) _ hTO⟩, h1.at fun o q => k i1 (by simp) o q, let ⟨o, e, r⟩ := h2; ⟨o, k i2 (by simp) o e, r⟩⟩
 item := by
  intro X hP hw hK hc i pins s σ H E I hf st hg;subst hP hw hK;obtain ⟨hz, hTI, ⟨x0, y0, hTO⟩, h1, h2⟩ := st;obtain ⟨xs, ys, x, y, hqx, hqy, hx, hy⟩ := hg;obtain ⟨its, rv, p, _⟩ := I.list hqx;obtain ⟨its2, rv2, p2, _⟩ := I.tuple hqy;obtain ⟨u, hu, ru⟩ := rv.get hx;obtain ⟨u2, hu2, ru2⟩ := rv2.get hy;have hzl : z < s.heap.objs.size := Heap.lt_size hz;refine Aar D hz hTI hTO h1 h2 p.isList p2 (x := u) (y := u2) (by simpa using hu) (by simpa using hu2) fun h' z' TO' h1' h2' hT hk => ?_;refine ⟨_, rfl, wpAny_letOwnedTupleGo_zip (s := { s with heap := h' }) z' fun h'' z'' sb => ?_⟩;have hT2 : h''.get? s.heap.objs.size = some { cls := .type "tuple", data := .seq #[u, u2] } := (sb.2 _ (Vl hzl)).trans hT;have new : Fw X.prog X.w (upd H s.heap.objs.size (.tup [x, y])) h'' s.heap.objs.size (.tup [x, y]) :=
   ⟨by show 2 ≤ sizeLine; decide, [u, u2], .cons ru (.cons ru2 .nil), ⟨_, hT2, rfl, _, rfl⟩⟩
  have I1 : Inv X pins σ (upd H s.heap.objs.size (.tup [x, y])) { s with heap := h'' } :=
   I.turnedNew (t' := s.toks) (ch := [z, TI, TO, i1, i2]) (fun c o hb q => (sb.2 c (fun q' => hb (by simp [q']))).trans (hk c o (fun q' => hb (by simp [q'])) (fun q' => hb (by simp [q'])) (fun q' => hb (by simp [q'])) (fun q' => hb (by simp [q'])) q)) hf (Ak _) new
  refine ⟨.ref s.heap.objs.size, _, I1, rfl, ⟨_, x, y, rfl, I.hok.fresh (Ak _), rfl, fun l hl => by rw [I.list_inj hl hqx]; exact hx, fun l hl => by rw [I.tuple_inj hl hqy]; exact hy⟩, ⟨z'', ?_, ⟨u, u2, ?_⟩, ?_, ?_⟩, fun c hcm => ?_⟩
  ·exact (sb.2 _ D.TIz).trans (hk _ _ D.TIz D.TITO D.TIi1 D.TIi2 hTI)
  ·exact (sb.2 _ D.TOz).trans TO'
  ·exact h1'.at fun o q => (sb.2 _ D.i1z).trans q
  ·exact let ⟨o, e, r⟩ := h2'; ⟨o, (sb.2 _ D.i2z).trans e, r⟩
  ·have hlt : c < s.heap.objs.size := by
    have e' : c = z ∨ c = TI ∨ c = TO ∨ c = i1 ∨ c = i2 := by simpa using hcm
    rcases e' with q | q | q | q | q
    ·rw [q]; exact hzl
    ·rw [q]; exact Heap.lt_size hTI
    ·rw [q]; exact Heap.lt_size hTO
    ·rw [q]; obtain ⟨_, e1, _⟩ := h1; exact Heap.lt_size e1
    ·rw [q]; obtain ⟨_, e2, _⟩ := h2; exact Heap.lt_size e2
   rw [Aw (Cj hlt)];exact (hf c hcm).1
 done := by
  intro X hP hw hK hc i pins s σ H E I hf st hg;subst hP hw hK;obtain ⟨hz, hTI, ⟨x0, y0, hTO⟩, h1, h2⟩ := st;obtain ⟨xs, hqx, hend⟩ := hg;obtain ⟨its, rv, p, _⟩ := I.list hqx;have l1 := rv.length;have he : its.toArray[i]? = none := by simp; omega
  exact Adp (I.ok.hd hc) D hz hTI h1 p.isList he fun h' hk => ⟨rfl, I.turnedL (t' := s.toks) (ch := [z, TI, TO, i1, i2]) (fun c o hb q =>
   hk c o (fun q' => hb (by simp [q'])) (fun q' => hb (by simp [q'])) (fun q' => hb (by simp [q'])) (fun q' => hb (by simp [q'])) q) hf⟩
 self := fun A i s Q E st h => wpAny_pyIter_zip st.1 h
def Akv (K : Ad) (ta : TA) : TI := fun σ H R => ta σ H fun vs H1 => ∃ a b xs ys, vs = [.ref a, .ref b] ∧ SqL K H1 a xs ∧ SqT K H1 b ys ∧ R (Aic K a b) H1
theorem Aii {h : Heap} {a : Addr} {xs : Array Value} (t : IsTup h a xs) : a < h.objs.size := let ⟨_, e, _⟩ := t; Heap.lt_size e
theorem Ah4 {X : Cx} {e e2 : Expr} {ta : TA} {p pos tpos : Pos} {elts : List Expr} {kk : Nat} (hg : Gl X "zip") (hm : X.mg "zip" = none) (ha : PA X [e, e2] ta)
  (hs : starEach [e, e2] X.env = (false, eval e X.env) :: starEach [e2] X.env := by rfl) (hpl : (backTo pos (starEach [e2] X.env)).any (·.1) = false := by rfl) :
  PI X (.Tuple elts kk tpos) (.Call (.Name "zip" p) [e, e2] [] pos) (Akv X.K ta) := by
 intro pins s σ H R I h;refine Call_ (S2 I hg hm Wk (Oo (thn (ha pos pins s σ H _ I h) fun us s1 ⟨vs, H1, I1, r1, q1⟩ => ?_) hs hpl));obtain ⟨a, b, xs, ys, ex, hqx, hqy, q⟩ := q1;subst ex
 cases r1 with
 | cons r rr =>
  cases rr with
  | cons r' rr =>
   cases rr
   cases r
   cases r'
   obtain ⟨its, rv, p1, _⟩ := I1.list hqx;obtain ⟨its2, rv2, p2, _⟩ := I1.tuple hqy;have la : a < s1.heap.objs.size := p1.lt;have lb : b < s1.heap.objs.size := Aii p2;refine Ac3 p1.isList p2 fun h' hz hTI hTO h1 h2 hk => wpAny_pyIter_zip hz ?_;have I2 : Inv X pins σ H1 { s1 with heap := h' } := I1.kept (t' := s1.toks) hk;refine ⟨s1.heap.objs.size + 4, [s1.heap.objs.size + 4, s1.heap.objs.size + 2, s1.heap.objs.size + 3, s1.heap.objs.size, s1.heap.objs.size + 1], _, _, H1, rfl, I2, Aau (PySem.W.ktu_apart s1.heap.objs.size a b la lb), ⟨hz, hTI, ⟨_, _, hTO⟩, h1, h2⟩, fun c hcm => ?_, q⟩;have e' : c = s1.heap.objs.size + 4 ∨ c = s1.heap.objs.size + 2 ∨ c = s1.heap.objs.size + 3 ∨ c = s1.heap.objs.size ∨ c = s1.heap.objs.size + 1 := by simpa using hcm
   have hle : s1.heap.objs.size ≤ c := by
    rcases e' with z | z | z | z | z <;> rw [z]
    all_goals first | exact Gn _ _ | exact Ak _
   exact I1.fpOk hle (I1.hok.fresh hle)
theorem Af1 {K : Ad} {a b : Addr} {xs ys : List V} {g : TG} {tb : TS} {D : Aac} {σ : L2.St} {H : Hp} (hxy : xs.length = ys.length) (Pv : Nat → L2.St → Hp → Prop) (h0 : Pv 0 σ H) (hl : ∀ i σ H, Pv i σ H → SqL K H a xs ∧ SqT K H b ys)
  (hs : ∀ i x y T σ H, xs[i]? = some x → ys[i]? = some y → H T = none → Pv i σ H → g (.ref T) σ (upd H T (.tup [x, y])) fun σ2 H2 => tb { D with nx := Pv (i + 1), ct := Pv (i + 1), bk := D.nx } σ2 H2) (hd : ∀ σ H, Pv xs.length σ H → D.nx σ H) :
  ∃ W : Nat → Nat → L2.St → Hp → Prop, (∃ m, W 0 m σ H) ∧ ∀ i m σ H, W i m σ H →
   ((Aic K a b).stop i H ∧ D.nx σ H) ∨ ((Aic K a b).go i H ∧ ∃ N : L2.St → Hp → Prop, (∀ σ' H', N σ' H' → ∃ m', m' < m ∧ W (i + 1) m' σ' H') ∧ ∀ x H', (Aic K a b).yld i H x H' → g x σ H' fun σ2 H2 => tb { D with nx := N, ct := N, bk := D.nx } σ2 H2) := by
 refine ⟨fun i m σ H => m = xs.length - i ∧ i ≤ xs.length ∧ Pv i σ H, ⟨xs.length, by simp, B7 _, h0⟩, ?_⟩;rintro i m σ H ⟨rfl, hi, p⟩;obtain ⟨q1, q2⟩ := hl i σ H p
 by_cases hlt : i < xs.length
 ·refine .inr ⟨⟨xs, ys, xs[i], ys[i]'(by omega), q1, q2, by simp [hlt], by simp⟩, Pv (i + 1), fun σ' H' p' => ⟨xs.length - (i + 1), by omega, rfl, hlt, p'⟩, fun x H' y => ?_⟩;obtain ⟨T, u, v, e, hT, e2, y1, y2⟩ := y;subst e;subst e2;exact hs i u v T σ _ (y1 xs q1) (y2 ys q2) hT p
 ·have e : i = xs.length := by omega
  subst e;exact .inl ⟨⟨xs, q1, Ak _⟩, hd σ H p⟩
def KT (K : Ad) (a : Addr) (xs : List V) : Prop := ∃ (o : Obj) (its : Array Value) (n : Nat), K.lookup a = some o ∧ o.cls = .type "tuple" ∧ o.data = .seq its n ∧ its.size ≤ sizeLine ∧ Cy xs its.toList
theorem KT.sq {K : Ad} {a : Addr} {xs : List V} {H : Hp} (h : KT K a xs) : SqT K H a xs := .inr h
def ranges : List (Int × Int) := [(0, 3), (0, 1), (0, 3600), (0, 3600), (0, 3600), (0, 65535)]
def Ade (K : Ad) (mg : Str → Option Value) : Prop := ∃ (a : Addr) (bs : List Addr), mg "DEFINITION_RANGES" = some (.ref a) ∧ KT K a (bs.map V.ref) ∧ bs.length = 6 ∧ ∀ (i : Nat) (b : Addr) (r : Int × Int), bs[i]? = some b → ranges[i]? = some r → KT K b [.int r.1, .int r.2]
theorem Tab.grow {c : Cs} {A : AD} {H H1 : Hp} {s : Al} {x : Addr} {k : Bo} (T : Tab c A H s) (hx : H x = none) (n : New H H1) (o : Ob c.K kK H1 x (kv s.kinds.length k)) :
  Tab c { A with ks := A.ks ++ [x] } (upd H1 A.kl (.lst ((A.ks ++ [x]).map V.ref))) { s with kinds := s.kinds ++ [k] } := by
 have T1 := T.same n;obtain ⟨st, hd, t1, t2⟩ := T1.tab;obtain ⟨es, e1, e2⟩ := T1.el;obtain ⟨bs, b0, b1, b2⟩ := T1.bd;have e : F6 A.kl H1 (upd H1 A.kl (.lst ((A.ks ++ [x]).map V.ref))) := F6.upd;have off : ∀ {C q : Addr} {ks : List Str} {vs : List V}, Ob C ks H1 q vs → Ob C ks (upd H1 A.kl (.lst ((A.ks ++ [x]).map V.ref))) q vs := fun ob => ob.else e fun z => ob.off T1.kl B4 z.symm;have dk : ∀ {b : Addr} {kvs : List (Key × V)}, H1 b = some (.dK kvs) → upd H1 A.kl (.lst ((A.ks ++ [x]).map V.ref)) b = some (.dK kvs) := fun {b kvs} h => by rw [Aw (Ng h T1.kl (by intro z; cases z))]; exact h
 have nx : ∀ i a, A.ks[i]? = some a → a ≠ x := fun i a ha => by
  have hi : i < s.kinds.length := by rw [← T.klen]; exact (Af.mp ha).1
  obtain ⟨dx, h, _⟩ := T.kin i a _ ha (Aq hi);exact Av h hx
 refine ⟨⟨st, hd, off t1, t2⟩, Ao, ?_, fun i a y h1 h2 => ?_, ?_, off T1.ln, dk T1.dr, fun d hd => dk (T1.din d hd), T1.dnd, T1.tells, off T1.pp, ⟨es, ?_, Cd (fun _ _ q => off q) e2⟩, ⟨bs, b0, dk b1, Cd (fun _ _ q => off q) b2⟩, T1.nel, T1.nbd, T1.nin⟩
 ·show (A.ks ++ [x]).length = (s.kinds ++ [k]).length;rw [A6, A6, T.klen];rfl
 ·have h1 : (A.ks ++ [x])[i]? = some a := h1;have h2 : (s.kinds ++ [k])[i]? = some y := h2
  by_cases hi : i < s.kinds.length
  ·rw [Iv (by rw [T.klen]; exact hi)] at h1;rw [Iv hi] at h2;exact off (T1.kin i a y h1 h2)
  ·have hi2 : i = s.kinds.length := by
    have := (Af.mp h2).1;rw [A6] at this;simp at this;omega
   subst hi2;rw [Dz (by rw [T.klen]; exact Ak _), T.klen, Oq] at h1;rw [Dz (Ak _), Oq] at h2;have ea : x = a := Ah h1;have ey : k = y := Ah h2;subst ea ey;exact off o
 ·show (A.ks ++ [x]).Nodup;rw [F8];refine ⟨T.knd, by simp, fun a ha b hb => ?_⟩;obtain ⟨i, hi⟩ := List.mem_iff_getElem?.mp ha;rw [A9] at hb;subst hb;exact nx i a hi
 ·rw [Aw T1.nel]; exact e1
section
variable {P : Program} {w : World} {K : Ad} {mg : Str → Option Value} {base : Heap} {C : Addr} {c : Cs}
def mk6 (f : Int → Int → Int → Int → Int → Int → Co) : List Int → Option Co
 | [r, l, d, e, a, b] => some (f r l d e a b)
 | _ => none
theorem Aer {f : Int → Int → Int → Int → Int → Int → Co} {args : List Int} {call : Co} (h : mk6 f args = some call) : ∃ r l d e a b, args = [r, l, d, e, a, b] ∧ call = f r l d e a b := by
 match args, h with
 | [r, l, d, e, a, b], h => exact ⟨r, l, d, e, a, b, rfl, (Ah h).symm⟩
def okTo (args : List Int) (i : Nat) : Prop := ∀ j z r, j < i → args[j]? = some z → ranges[j]? = some r → Bi z r.1 r.2 = true
def Ta (r l d e a b : Int) : Bool := !Bi r 0 3 || !Bi l 0 1 || !Bi d 0 3600 || !Bi e 0 3600 || !Bi a 0 3600 || !Bi b 0 65535
theorem Abz {r l d e a b : Int} {j : Nat} {z : Int} {q : Int × Int} (h1 : [r, l, d, e, a, b][j]? = some z) (h2 : ranges[j]? = some q) (h : Bi z q.1 q.2 = false) : Ta r l d e a b = true := by
 unfold Ta;unfold ranges at h2
 match j, h1, h2 with
 | 0, h1, h2 => cases h1; cases h2; simp [h]
 | 1, h1, h2 => cases h1; cases h2; simp [h]
 | 2, h1, h2 => cases h1; cases h2; simp [h]
 | 3, h1, h2 => cases h1; cases h2; simp [h]
 | 4, h1, h2 => cases h1; cases h2; simp [h]
 | 5, h1, h2 => cases h1; cases h2; simp [h]
 | j + 6, h1, h2 => simp at h1
theorem Z9 {r l d e a b : Int} (h : okTo [r, l, d, e, a, b] 6) : Ta r l d e a b = false := by
 have h0 := h 0 r (0, 3) (by decide) rfl rfl;have h1 := h 1 l (0, 1) (by decide) rfl rfl;have h2 := h 2 d (0, 3600) (by decide) rfl rfl;have h3 := h 3 e (0, 3600) (by decide) rfl rfl;have h4 := h 4 a (0, 3600) (by decide) rfl rfl;have h5 := h 5 b (0, 65535) (by decide) rfl rfl;unfold Ta;simp only at h0 h1 h2 h3 h4 h5;rw [h0, h1, h2, h3, h4, h5];rfl
theorem Mx : A8 ["table", "numbers", "number", "bounds", "k"] ["table", "numbers"] (Ar s_define) := by constructor<;>first|rfl|decide +kernel
theorem Abg (D : De K mg "define" s_define ["table", "numbers"]) (cT : CK K c.T tK) (M : Tops mg) (R : Ade K mg) (DW : Fn P w K mg base "within" 1 ["number", "least", "greatest"] G7) (DK : Ma P w K mg base c.K "Kind" 1 ["self", "number", "definition"] (V1 c.K)) :
  Fn P w K mg base "define" 8 ["table", "numbers"] (Dt c (mk6 .define)) := by
 refine D.fn fun f fd F => F.ok Mx (fun vs H Q E h => ?_) (fun cdv A outer s H vs Q E hr h => ?_)
 ·obtain ⟨A, s, nl, args, call, rfl, _⟩ := h;rfl
 ·obtain ⟨A, s, nl, args, call, rfl, T, W, hnl, nown, hmk, q⟩ := h;obtain ⟨r, l, d, e, a, b, rfl, rfl⟩ := Aer hmk;obtain ⟨aD, bs, hmD, kD, bl, kb⟩ := R;refine ⟨_, (Ab (Ht PassesOwn.never rfl (Ah4 (by rfl) M.no_zip (Aa (pv 1) (Aa (Kd (v := .ref aD) rfl hmD rfl) Ag))) (Ag2 rfl (Po (Dj (i := 2) Mx.nd rfl (A7 rfl)) (Po (Dj (i := 3) Mx.nd rfl (A7 rfl)) Acx)))
    (Ai (Ca (D7 (Ck (Br DW (hr.mono (by decide)) rfl (Aa (pv 2) (Aa (Du Ag8 (pv 3) Ax (fun _ _ => rfl)) (Aa (Du Ag8 (pv 3) Ax (fun _ _ => rfl)) Ag)))))) (Ai (A1 (Bl (Aa (C7 M.OUT_OF_RANGE rfl) Ag)))) Bg)))
   (Ab (Bf (i := 4) Mx.nd rfl (A7 rfl) (C1 C2 (by rfl) M.no_len Cw (Aa (An (pv 0) rfl) Ag)))
   (Ab (Ca (B6 Abb (pv 4) (C7 M.MOST_KINDS rfl) (Cq _)) (Ai (A1 (Bl (Aa (C7 M.TOO_MANY_KINDS rfl) Ag)))) Bg)
   (Ab (Cv (M6 B1 E2 E1 Jb (An (pv 0) rfl) (Aa (Ae9 DK (hr.mono (by decide)) rfl (Aa (pv 4) (Aa (pv 1) Ag))) Ag)))
   (Ai (A1 (Bl (Aa (pv 4) Ag)))))))), ?_⟩
  refine ⟨_, rfl, nl, aD, _, _, rfl, SqL.of hnl, kD.sq, Af1 (K := K) (xs := ([r, l, d, e, a, b] : List Int).map V.int) (ys := bs.map V.ref) (by rw [Ac, Ac, bl]; rfl)
   (fun i σ H' => ∃ v2 v3, σ = [some (.ref A.t), some (.ref nl), v2, v3, none] ∧ New H H' ∧ okTo [r, l, d, e, a, b] i)
   ⟨none, none, rfl, fun _ _ h => h, fun j _ _ hj => absurd hj (Vq _)⟩ (fun i σ H' ⟨_, _, _, n, _⟩ => ⟨SqL.of (n _ _ hnl), kD.sq⟩) ?_ ?_⟩
  ·rintro i x y T0 σ H' hx hy nT ⟨v2, v3, rfl, n, ok⟩;rw [Ap] at hx hy
   cases hz : ([r, l, d, e, a, b] : List Int)[i]? with
   | none => rw [hz] at hx; cases hx
   | some z =>
    rw [hz] at hx;have ex : x = V.int z := (Ah hx).symm;subst ex
    cases hb : bs[i]? with
    | none => rw [hb] at hy; cases hy
    | some bi =>
     rw [hb] at hy;have ey : y = V.ref bi := (Ah hy).symm;subst ey;have hi : i < ranges.length := by have := (Af.mp hz).1; exact this
     obtain ⟨rg, hrg⟩ : ∃ rg, ranges[i]? = some rg := ⟨_, Aq hi⟩;have kt := kb i bi rg hb hrg;have n8 : New H' (upd H' T0 (.tup [V.int z, V.ref bi])) := New.upd nT;refine ⟨T0, _, rfl, SqT.of Ao, rfl, _, _, rfl, _, _, rfl, rfl, ?_⟩;generalize upd H' T0 (.tup [V.int z, V.ref bi]) = H8 at n8;refine ⟨_, rfl, _, rfl, bi, _, _, _, rfl, rfl, kt.sq, Ew (j := 0) rfl rfl, _, rfl, bi, _, _, _, rfl, rfl, kt.sq, Ew (j := 1) rfl rfl, z, rg.1, rg.2, rfl, _, rfl, Cm (fun hw => ?_) (fun hw => ?_)⟩
     ·have hb := Abz hz hrg (by simpa using hw);unfold Ta at hb;exact D4 q (by unfold Ae; simp only; rw [if_pos hb]) ((T.same n).same n8) (Bj.new (n.trans n8))
     ·refine ⟨_, _, rfl, n.trans n8, fun j z' r' hj h1 h2 => ?_⟩
      by_cases e : j = i
      ·subst e;rw [hz] at h1;rw [hrg] at h2
       cases h1
       cases h2
       simpa using hw
      ·exact ok j z' r' (by omega) h1 h2
  ·rintro σ H' ⟨v2, v3, rfl, n, ok⟩;have ok : okTo [r, l, d, e, a, b] 6 := ok;have nb := Z9 ok;unfold Ta at nb;have nb := Bool.eq_false_iff.mp nb;have T1 := T.same n;obtain ⟨st, hd, ⟨dt, ht, lt⟩, si⟩ := T1.tab;refine ⟨_, rfl, _, _, _, _, _, rfl, ht, cT.cls, cT.n 0 rfl, cT.l lt 0 rfl, _, _, rfl, .inl (SqL.of T1.kl), ?_⟩;have el : (A.ks.map V.ref).length = s.kinds.length := by rw [Ac, T.klen]
   rw [el];refine ⟨_, rfl, _, _, rfl, rfl, _, rfl, Cm (fun h32 => ?_) (fun h32 => ?_)⟩
   ·have h32 : 32 ≤ s.kinds.length := by have := of_decide_eq_true h32; omega
    exact D4 q (by unfold Ae; simp only; rw [if_neg nb, if_pos (show Vbdlah.KINDS ≤ s.kinds.length from h32)]) T1 (Bj.new n)
   ·have h32 : ¬ 32 ≤ s.kinds.length := fun z => h32 (decide_eq_true (by show (32 : Int) ≤ (s.kinds.length : Int); omega));refine ⟨_, rfl, _, _, _, _, _, rfl, ht, cT.cls, cT.n 0 rfl, cT.l lt 0 rfl, .inl ⟨rfl, _, SqL.of T1.kl⟩, _, rfl, _, rfl, ?_⟩;intro x dx nx ndx nex;have w0 := ok 0 r (0, 3) (by decide) rfl rfl;have w1 := ok 1 l (0, 1) (by decide) rfl rfl;have w2 := ok 2 d (0, 3600) (by decide) rfl rfl;have w3 := ok 3 e (0, 3600) (by decide) rfl rfl;have w4 := ok 4 a (0, 3600) (by decide) rfl rfl;have w5 := ok 5 b (0, 65535) (by decide) rfl rfl;simp only [Gp] at w0 w1 w2 w3 w4 w5;have hn2 : upd (upd H' dx (.own x)) x (.ins c.K dx []) nl = some (.lst (([r, l, d, e, a, b] : List Int).map V.int)) := by
     rw [Aw (Av (n _ _ hnl) nx), Aw (Av (n _ _ hnl) ndx)];exact n _ _ hnl
    refine ⟨x, _, nl, r, l, d, e, a, b, rfl, Ob0.start, hn2, fun H2 o2 e2 => ⟨rfl, ?_⟩⟩;have n2 : New H' H2 := P6 nx ndx e2;have ko : Ob c.K kK H2 x (kv s.kinds.length ⟨r.toNat, l == 1, d.toNat, e.toNat, a.toNat, b.toNat, false, 0, 0, none⟩) := by
     have e1 : ((r.toNat : Nat) : Int) = r := by omega
     have e3 : ((d.toNat : Nat) : Int) = d := by omega
     have e4 : ((e.toNat : Nat) : Int) = e := by omega
     have e5 : ((a.toNat : Nat) : Int) = a := by omega
     have e6 : ((b.toNat : Nat) : Int) = b := by omega
     have el : (if (l == 1) = true then (1 : Int) else 0) = l := by
      by_cases h : l = 1
      ·rw [h]; rfl
      ·rw [if_neg (by simpa using h)]; omega
     unfold kv;simp only;rw [e1, e3, e4, e5, e6, el];exact o2
    have T3 := T1.grow nx n2 ko;refine ⟨A.kl, _, _, rfl, rfl, (T1.same n2).kl, by rw [el]; exact C0 (by omega), ?_⟩;have eks : (A.ks.map V.ref ++ [V.ref x]) = (A.ks ++ [x]).map V.ref := by rw [Bb]; rfl
    rw [eks];have k3 : Xw A H { A with ks := A.ks ++ [x] } (upd H2 A.kl (.lst ((A.ks ++ [x]).map V.ref))) := fun bb o h nn m => ⟨by rw [Aw (fun z => m (by rw [z]; simp [AD.own]))]; exact n2 _ _ (n _ _ h), m⟩;refine ⟨_, rfl, ?_⟩;exact Pg q (by unfold Ae; simp only; rw [if_neg nb, if_neg (show ¬ Vbdlah.KINDS ≤ s.kinds.length from h32)]) T3 rfl k3
end
section
variable {X : Cx}
def Afz (K : Ad) : V → List V → Hp → VK → Prop := fun x xs H Q => ∃ (a : Addr) (ys : List V) (y : V), x = V.ref a ∧ xs = [y] ∧ SqL K H a ys ∧ O0 y = true ∧ ys.all O0 = true ∧ Q (.int ((ys.countP fun z => eqV z y : Nat))) H
theorem Tb {y : V} : ∀ {ys : List V} {us : List Value}, Cy ys us → ys.all O0 = true → us.countP (eqU y) = ys.countP fun z => eqV z y
 | _, _, .nil, _ => rfl
 | z :: ys, u :: us, .cons r t, f => by
  rw [List.all_cons, Iu] at f;rw [List.countP_cons, List.countP_cons, Ad8 r f.1, Tb t f.2]
theorem Abm : MtR X "list.count" (Afz X.K) := by
 intro pins s σ H x xs v us Q I rx rxs h;obtain ⟨a, ys, y, rfl, rfl, hs, fy, fys, q⟩ := h
 cases rx
 cases rxs with
 | cons ry rt =>
  rename_i uy ut
  cases rt
  obtain ⟨its, rv, ⟨⟨cls, dd, data, sl⟩, n, ho, hc, hdn, hd⟩, hlen⟩ := I.list hs;simp only at hc hd;subst hc hd;refine call_meets PySem.F.slot_list_count ⟨_, ho, rfl⟩ PySem.F.entry_list_count (PySem.F.args_list_count_2 _ _)
   (SeqAt.list_countAt a its.toArray n dd sl uy (eqU y)) ⟨ho, fun u' hu' => P5 ry fy rv fys u' (by simpa using hu'), ?_⟩
  refine ⟨.int _, H, I.tok _, ⟨_, rfl⟩, ?_⟩;rw [Tb rv fys];exact q
end
theorem Sw {α β : Type} {F : α → β → Prop} : ∀ {l : List α} {m : List β}, Paired F l m → ∃ ps : List (α × β), l = ps.map (·.1) ∧ m = ps.map (·.2) ∧ ∀ p ∈ ps, F p.1 p.2
 | _, _, .nil => ⟨[], rfl, rfl, fun p hp => by cases hp⟩
 | _, _, .cons (a := a) (b := b) r t => by
  obtain ⟨ps, e1, e2, h⟩ := Sw t;refine ⟨(a, b) :: ps, by rw [e1]; rfl, by rw [e2]; rfl, fun p hp => ?_⟩
  rcases Az.mp hp with rfl | hp
  ·exact r
  ·exact h p hp
def Ai8 (K : Ad) (mg : Str → Option Value) : Prop := ∃ a, mg "RANKS" = some (.ref a) ∧ KT K a [.int 0, .int 1, .int 2, .int 3]
theorem Aa5 (l : List Bk) (r : Nat) : ((l.filterMap fun x => some (V.int x.rank)).countP fun z => eqV z (V.int r)) = (l.filter fun x => x.rank == r).length := by
 rw [Ip (fun x : Bk => V.int x.rank) l, List.countP_map, List.countP_eq_length_filter]
 congr 1
 apply Ri
 intro x _;show (((x.rank : Nat) : Int) == ((r : Nat) : Int)) = _
 by_cases e : x.rank = r
 ·subst e; simp
 ·have : ¬ ((x.rank : Nat) : Int) = ((r : Nat) : Int) := by omega
  rw [beq_eq_false_iff_ne.mpr this, beq_eq_false_iff_ne.mpr e]
section
variable {P : Program} {w : World} {K : Ad} {mg : Str → Option Value} {base : Heap} {C : Addr} {c : Cs}
theorem Ea : A8 ["table", "numbers", "raised", "ranks", "calling", "kind", "rank"] ["table", "numbers"] (Ar s_tell_tally) := by constructor<;>first|rfl|decide +kernel
theorem Rz (D : De K mg "tell_tally" s_tell_tally ["table", "numbers"]) (cK : CK K c.K kK) (M : Tops mg) (RK : Ai8 K mg) (DK : Fn P w K mg base "raised_kinds" 1 ["table"] (Ie c)) : Fn P w K mg base "tell_tally" 8 ["table", "numbers"] (Dt c (mk0 .tally)) := by
 refine D.fn fun f fd F => F.ok Ea (fun vs H Q E h => ?_) (fun cdv A outer s H vs Q E hr h => ?_)
 ·obtain ⟨A, s, nl, args, call, rfl, _⟩ := h;rfl
 ·obtain ⟨A, s, nl, args, call, rfl, T, W, hnl, nown, hmk, q⟩ := h;obtain ⟨rfl, rfl⟩ := Gu hmk;obtain ⟨aR, hmR, kt⟩ := RK;refine ⟨_, (Ab (Bf (i := 2) Ea.nd rfl (A7 rfl) (Br DK (hr.mono (by decide)) rfl (Aa (pv 0) Ag)))
   (Ab (Bf (i := 3) Ea.nd rfl (Aie rfl) (Zc (own := [("kind", 5)]) (g := Jv 5) (tt := Afq) (te := K8 K (Fj 5) "rank_now") rfl Ea.nd (Es (pv 2)) (Gb (N := ["table", "numbers", "raised", "ranks", "calling", "kind", "rank"]) (sc := Ar s_tell_tally) (by decide +kernel)) (fun _ _ _ _ _ => Dj (i := 5) Ea.nd rfl (A7 rfl)) (fun _ _ _ _ _ => Qv) (fun _ _ _ _ _ => An (pv 5) rfl)))
   (Ab (M4 (i := 4) (own := [("kind", 5)]) (g := Jv 5) (tt := Ail (tB (K8 K (Fj 5) "acknowledged"))) (te := Fj 5) rfl Ea.nd rfl rfl rfl (Es (pv 2)) (Gb (N := ["table", "numbers", "raised", "ranks", "calling", "kind", "rank"]) (sc := Ar s_tell_tally) (by decide +kernel)) (fun _ _ _ _ _ => Dj (i := 5) Ea.nd rfl (A7 rfl)) (fun _ _ _ _ _ => N4 (D7 (Ck (An (pv 5) rfl)))) (fun _ _ _ _ _ => pv 5))
   (Ai (A1 (Et Mi (Zc (own := [("rank", 6)]) (g := Jv 6) (tt := Afq) (te := tBM K "list" (Afz K) (Fj 3) (Hv (Fj 6) Nv)) rfl Ea.nd (Aj0 (Kd (v := .ref aR) rfl hmR rfl)) (Gb (N := ["table", "numbers", "raised", "ranks", "calling", "kind", "rank"]) (sc := Ar s_tell_tally) (by decide +kernel)) (fun _ _ _ _ _ => Dj (i := 6) Ea.nd rfl (A7 rfl)) (fun _ _ _ _ _ => Qv) (fun _ _ _ _ _ => M6 B1 PySem.F.slot_list_count PySem.F.type_list_count Abm (pv 3) (Aa (pv 6) Ag)))
    (Bl (Aa (C1 C2 (by rfl) M.no_len Cw (Aa (pv 4) Ag)) Ag)))))))), ?_⟩
  have lim := W.lim;have rlen := Dq s;refine ⟨_, rfl, A, s, rfl, T, W.lim, fun H1 l n1 nl1 hl => ?_⟩;have T1 := T.same n1;refine ⟨_, rfl, l, rfl, ⟨_, SqL.of hl⟩, fun D nD => ?_⟩;refine Uz T1 (fun r hr => Kc hr) (by omega) hl nD (fun r => some (V.int r.rank)) (fun r x u dk H' acc N _ hp hu _ erk eak _ n hD hz h1 h2 => ?_) ?_
  ·refine ⟨rfl, U2 (B := N H') ?_⟩;refine ⟨_, rfl, _, _, _, _, _, rfl, hp, cK.cls, cK.n 11 rfl, cK.l Zw 11 rfl, acc, hD, hz, ?_⟩;have := h1 (V.int r.rank) rfl;rw [hu];show N (upd H' D (.lst (acc ++ [V.int (u.rank : Nat)])));rw [← erk];exact this
  ·have n2 : New H1 (upd H1 D (.lst ((Aj s).filterMap fun r => some (V.int r.rank)))) := New.upd nD;have hD2 : upd H1 D (.lst ((Aj s).filterMap fun r => some (V.int r.rank))) D = some (.lst ((Aj s).filterMap fun r => some (V.int r.rank))) := Ao;generalize upd H1 D (.lst ((Aj s).filterMap fun r => some (V.int r.rank))) = H2 at n2 hD2;have T2 := T1.same n2;refine ⟨_, rfl, l, rfl, ⟨_, SqL.of (n2 _ _ hl)⟩, fun D2 nD2 => ?_⟩;refine Uz T2 (fun r hr => Kc hr) (by omega) (n2 _ _ hl) nD2 (fun r => if (!r.acked) = true then some (V.ref (A.ks.getD r.kind 0)) else none) (fun r x u dk H' acc N _ hp hu _ erk eak _ n hD hz h1 h2 => ?_) ?_
   ·refine ⟨rfl, ?_⟩;refine ⟨_, rfl, _, _, _, _, _, rfl, hp, cK.cls, cK.n 12 rfl, cK.l Zw 12 rfl, _, rfl, Cm (fun ha => ?_) (fun ha => ?_)⟩
    ·have ha : (!r.acked) = true := by rw [hu] at ha; rw [eak]; exact ha
     exact ⟨_, rfl, acc, hD, hz, h1 _ (by rw [if_pos ha])⟩
    ·have ha : ¬ (!r.acked) = true := by rw [hu] at ha; rw [eak]; exact ha
     exact h2 (by rw [if_neg ha])
   ·rw [Af2 (fun r : Bk => !r.acked) (fun r => V.ref (A.ks.getD r.kind 0))];have n3 : New H2 (upd H2 D2 (.lst (((Aj s).filter fun r => !r.acked).map fun r => V.ref (A.ks.getD r.kind 0)))) := New.upd nD2;have hD3 : upd H2 D2 (.lst (((Aj s).filter fun r => !r.acked).map fun r => V.ref (A.ks.getD r.kind 0))) D2 = some (.lst (((Aj s).filter fun r => !r.acked).map fun r => V.ref (A.ks.getD r.kind 0))) := Ao;generalize upd H2 D2 (.lst (((Aj s).filter fun r => !r.acked).map fun r => V.ref (A.ks.getD r.kind 0))) = H3 at n3 hD3;have hDr := n3 _ _ hD2;refine ⟨aR, rfl, ⟨_, kt.sq⟩, fun D3 nD3 => ?_⟩
    let cnt : Nat → V := fun r => V.int (((Aj s).filter fun x => x.rank == r).length : Nat)
    refine Ajn (K := K) (xs := [.int 0, .int 1, .int 2, .int 3]) (fun i H' => H' = upd H3 D3 (.lst ((Be i).map cnt))) rfl (fun i H' _ _ => kt.sq) (fun i y H' hi e => ?_) (fun H' e => ?_)
    ·subst e;have hy : y = V.int (i : Nat) ∧ i < 4 := by
      match i, hi with
      | 0, hi => cases hi; exact ⟨rfl, by omega⟩
      | 1, hi => cases hi; exact ⟨rfl, by omega⟩
      | 2, hi => cases hi; exact ⟨rfl, by omega⟩
      | 3, hi => cases hi; exact ⟨rfl, by omega⟩
      | n + 4, hi => simp at hi
     obtain ⟨rfl, hi4⟩ := hy;refine ⟨rfl, U2 (B := upd H3 D3 (.lst ((Be i).map cnt)) = upd H3 D3 (.lst ((Be (i + 1)).map cnt))) ?_⟩;have hDn := (New.upd (o := .lst ((Be i).map cnt)) nD3) _ _ hDr;refine ⟨_, rfl, .inl ⟨rfl, _, SqL.of hDn⟩, _, rfl, D, _, _, rfl, rfl, SqL.of hDn, rfl, ?_, _, Ao, ?_, ?_⟩
     ·rw [Ip (fun x : Bk => V.int x.rank), List.all_map];exact Fl.mpr fun _ _ => rfl
     ·rw [Ac, Ct];exact C0 (by omega)
     ·rw [Lg, Fc, Bb, Aa5];rfl
    ·subst e;have n4 := n3.trans (New.upd (o := .lst ((Be ([.int 0, .int 1, .int 2, .int 3] : List V).length).map cnt)) nD3);have hD4 := (New.upd (o := .lst ((Be ([.int 0, .int 1, .int 2, .int 3] : List V).length).map cnt)) nD3) _ _ hD3;refine ⟨_, rfl, D2, _, rfl, .inl (SqL.of hD4), (by show 1 ≤ sizeLine; decide), fun m nm => ?_⟩;refine ⟨D3, m, _, _, rfl, rfl, (New.upd nm) _ _ Ao, Ao, (by show 5 ≤ sizeLine; decide), fun p np => ?_⟩;have n5 := ((n1.trans n2).trans n4).trans (New.upd (o := .lst [V.int ((((Aj s).filter fun r => !r.acked).map fun r => V.ref (A.ks.getD r.kind 0)).length : Nat)]) nm);refine Ky q (l := _) rfl T (n5.trans (New.upd np)) (n5.none np) ?_;rw [Ao, Ac];rfl
def Ad7 (e : Dg) : List Int := [(e.seq : Int), (e.time : Int), (e.kind : Int), (e.what : Int), (e.rank : Int)]
theorem Gr : A8 ["table", "numbers", "n", "asked", "told", "event"] ["table", "numbers"] (Ar s_tell_log) := by constructor<;>first|rfl|decide +kernel
theorem Xg (D : De K mg "tell_log" s_tell_log ["table", "numbers"]) (cT : CK K c.T tK) (cP : CK K c.P pK) (cE : CK K c.E eK) (M : Tops mg) (DW : Fn P w K mg base "within" 1 ["number", "least", "greatest"] G7) : Fn P w K mg base "tell_log" 8 ["table", "numbers"] (Dt c (mk1 .log)) := by
 refine D.fn fun f fd F => F.ok Gr (fun vs H Q E h => ?_) (fun cdv A outer s H vs Q E hr h => ?_)
 ·obtain ⟨A, s, nl, args, call, rfl, _⟩ := h;rfl
 ·obtain ⟨A, s, nl, args, call, rfl, T, W, hnl, nown, hmk, q⟩ := h;obtain ⟨n, rfl, rfl⟩ := E7 hmk;refine ⟨_, (Ab (Bf (i := 2) Gr.nd rfl (Aie rfl) (Du Cr (pv 1) Ax (fun _ _ => rfl)))
   (Ab (Ca (D7 (Ck (Br DW (hr.mono (by decide)) rfl (Aa (pv 2) (Aa Ax (Aa (C7 M.GREATEST_ASKED rfl) Ag)))))) (Ai (A1 (Bl (Aa (C7 M.OUT_OF_RANGE rfl) Ag)))) Bg)
   (Ab (M4 (i := 3) (own := [("event", 5)]) (g := Jv 5) (tt := Adx (tOp (rI0 fun i j => V.bl (decide (j ≤ i))) (K8 K (Fj 5) "number") (Fj 2))) (te := Fj 5) rfl Gr.nd rfl rfl rfl (Es (An (An (pv 0) rfl) rfl)) (Gb (N := ["table", "numbers", "n", "asked", "told", "event"]) (sc := Ar s_tell_log) (by decide +kernel)) (fun _ _ _ _ _ => Dj (i := 5) Gr.nd rfl (A7 rfl)) (fun _ _ _ _ _ => N4 (B6 Abb (An (pv 5) rfl) (pv 2) (Cq _))) (fun _ _ _ _ _ => pv 5))
   (Ab (Bf (i := 4) Gr.nd rfl (A7 rfl) (Bl (Aa (C1 C2 (by rfl) M.no_len Cw (Aa (pv 3) Ag)) Ag)))
   (Ab (Ht PassesOwn.never rfl (Es (pv 3)) (Dj (i := 5) Gr.nd rfl (A7 rfl)) (Ai (Cv (M6 B1 Jh Jg Nh (pv 4) (Aa (Bl (Aa (An (pv 5) rfl) (Aa (An (pv 5) rfl) (Aa (An (pv 5) rfl) (Aa (An (pv 5) rfl) (Aa (An (pv 5) rfl) Ag)))))) Ag)))))
   (Ai (A1 (pv 4)))))))), ?_⟩
  obtain ⟨st, hd, ⟨dt, ht, lt⟩, si⟩ := T.tab;obtain ⟨dp, hpp, lp⟩ := id T.pp;refine ⟨_, rfl, nl, _, _, _, rfl, rfl, SqL.of hnl, Ew (j := 0) rfl rfl, ?_⟩;refine ⟨_, rfl, n, 0, 1000000, rfl, _, rfl, Cm (fun h1 => ?_) (fun h1 => ?_)⟩
  ·have h1 : Bi n 0 1000000 = false := by simpa using h1
   exact D4 q (by unfold Ae; simp [h1]) T Bj.refl
  ·have h1 : Bi n 0 1000000 = true := by simpa using h1
   obtain ⟨es, he, hpa⟩ := T.el;obtain ⟨ps, e1, e2, hps⟩ := Sw hpa;subst e1;have plen : ps.length ≤ 64 := by have := W.len; rw [e2, Ac] at this; exact this
   let ask : Addr × Dg → Bool := fun p => decide (n ≤ (p.2.seq : Int))
   refine ⟨_, rfl, _, _, _, _, _, rfl, ht, cT.cls, cT.n 3 rfl, cT.l lt 3 rfl, _, _, _, _, _, rfl, hpp, cP.cls, cP.n 1 rfl, cP.l lp 1 rfl, A.el, rfl, ⟨_, SqL.of he⟩, fun D nD => ?_⟩;refine Q0 (K := K) (xs := (ps.map (·.1)).map V.ref) (fun i H' => H' = upd H D (.lst (((ps.take i).filter ask).map fun p => V.ref p.1))) rfl (fun i H' _ e => ?_) (fun i y H' hi e => ?_) (fun H' e => ?_)
   ·subst e;exact SqL.of ((New.upd nD) _ _ he)
   ·subst e;rw [D5, Ap] at hi
    cases hpi : ps[i]? with
    | none => rw [hpi] at hi; cases hi
    | some p =>
     rw [hpi] at hi;have ey : y = V.ref p.1 := (Ah hi).symm;subst ey;obtain ⟨de, hev, le⟩ := hps p (As hpi);have et : ps.take (i + 1) = ps.take i ++ [p] := by rw [Ce, hpi]; rfl
     refine ⟨rfl, ?_⟩;refine ⟨_, rfl, _, _, _, _, _, rfl, (New.upd nD) _ _ hev, cE.cls, cE.n 0 rfl, cE.l le 0 rfl, _, rfl, _, _, rfl, rfl, _, rfl, Cm (fun ha => ?_) (fun ha => ?_)⟩
     ·refine ⟨_, rfl, _, Ao, ?_, ?_⟩
      ·rw [Ac];have := Cc ask (ps.take i);rw [Cg] at this;exact C0 (by omega)
      ·rw [Lg, et, O7, Bu, if_pos (show ask p = true from ha), Bb];rfl
     ·rw [et, O7, Bu, if_neg (show ¬ ask p = true from ha), List.filter_nil, B8]
   ·subst e;rw [Ac, Ac, Cf];have n2 : New H (upd H D (.lst ((ps.filter ask).map fun p => V.ref p.1))) := New.upd nD;have hD : upd H D (.lst ((ps.filter ask).map fun p => V.ref p.1)) D = some (.lst ((ps.filter ask).map fun p => V.ref p.1)) := Ao;generalize upd H D (.lst ((ps.filter ask).map fun p => V.ref p.1)) = H2 at n2 hD;have qmem : ∀ p ∈ ps.filter ask, Ob c.E eK H p.1 (ev p.2) := fun p hp => hps p (Bn.mp hp).1;have qlen : (ps.filter ask).length ≤ 64 := Bz (Cc _ _) plen;have elog : s.log.filter (fun e => decide (n ≤ (e.seq : Int))) = (ps.filter ask).map (·.2) := by
     rw [e2, Vr];rfl
    generalize ps.filter ask = qs at hD qmem qlen elog;refine ⟨_, rfl, D, _, rfl, .inl (SqL.of hD), (by show 1 ≤ sizeLine; decide), fun L nL => ?_⟩;have nL0 : H L = none := n2.none nL;have fl := fun j => Af3 (f := fun p : Addr × Dg => Ad7 p.2) (n := 5) (fun _ => rfl) (qs.take j);refine ⟨_, rfl, D, rfl, ⟨_, SqL.of ((New.upd nL) _ _ hD)⟩, ?_⟩;refine Jw (K := K) (xs := qs.map fun p => V.ref p.1) (fun i σ H' => ∃ v5, σ = [some (.ref A.t), some (.ref nl), some (.int n), some (.ref D), some (.ref L), v5] ∧ New H2 H' ∧ H' L = some (.lst (((qs.length : Int) :: (qs.take i).flatMap fun p => Ad7 p.2).map V.int)))
     ⟨none, rfl, New.upd nL, by rw [Ao, Ac]; rfl⟩ (fun i σ H' _ ⟨_, _, k, _⟩ => SqL.of (k _ _ hD)) ?_ ?_
    ·rintro i y σ H' hi ⟨v5, rfl, k', hL'⟩;rw [Ap] at hi
     cases hqi : qs[i]? with
     | none => rw [hqi] at hi; cases hi
     | some p =>
      rw [hqi] at hi;have ey : y = V.ref p.1 := (Ah hi).symm;subst ey;obtain ⟨de, hev, le⟩ := qmem p (As hqi);have hv := k' _ _ (n2 _ _ hev);refine ⟨_, rfl, .inl ⟨rfl, _, SqL.of hL'⟩, _, rfl, _, _, _, _, _, rfl, hv, cE.cls, cE.n 0 rfl, cE.l le 0 rfl, _, rfl, _, _, _, _, _, rfl, hv, cE.cls, cE.n 1 rfl, cE.l le 1 rfl, _, rfl, _, _, _, _, _, rfl, hv, cE.cls, cE.n 2 rfl, cE.l le 2 rfl, _, rfl, _, _, _, _, _, rfl, hv, cE.cls, cE.n 3 rfl, cE.l le 3 rfl, _, rfl, _, _, _, _, _, rfl, hv, cE.cls, cE.n 4 rfl, cE.l le 4 rfl, (by show 5 ≤ sizeLine; decide), fun m nm => ?_⟩;have et : qs.take (i + 1) = qs.take i ++ [p] := by rw [Ce, hqi]; rfl
      have hls := fl i;rw [Cg] at hls;refine ⟨L, m, _, _, rfl, rfl, (New.upd nm) _ _ hL', Ao, En (C0 ?_), ?_⟩
      ·rw [Ac, A2, hls];simp only [A2, Fz];omega
      ·refine ⟨_, rfl, fun b o h => ?_, ?_⟩
       ·rw [Aw (Av h nL), Aw (Av (k' _ _ h) nm)];exact k' _ _ h
       ·rw [Ao, et, Aah, Kp, Afi, B8, ← Ld, Bb];rfl
    ·rintro σ H' ⟨v5, rfl, k', hL'⟩;rw [Ac, Cf] at hL';refine ⟨_, rfl, Ky q (l := ((qs.length : Int) :: qs.flatMap fun p => Ad7 p.2)) ?_ T (n2.trans k') nL0 hL'⟩;unfold Ae;simp only [h1];rw [if_neg (by simp), elog, Ac, List.flatMap_map];rfl
theorem Gx : A8 ["table", "numbers", "base", "told", "k", "standing"] ["table", "numbers"] (Ar s_tell_base) := by constructor<;>first|rfl|decide +kernel
theorem Um (D : De K mg "tell_base" s_tell_base ["table", "numbers"]) (cT : CK K c.T tK) (cP : CK K c.P pK) (cS : CK K c.S sK) (M : Tops mg) : Fn P w K mg base "tell_base" 8 ["table", "numbers"] (Dt c (mk0 .base)) := by
 refine D.fn fun f fd F => F.ok Gx (fun vs H Q E h => ?_) (fun cdv A outer s H vs Q E hr h => ?_)
 ·obtain ⟨A, s, nl, args, call, rfl, _⟩ := h;rfl
 ·obtain ⟨A, s, nl, args, call, rfl, T, W, hnl, nown, hmk, q⟩ := h;obtain ⟨rfl, rfl⟩ := Gu hmk;have hu := U3 hr;refine ⟨_, (Ab (Bf (i := 2) Gx.nd rfl (A7 rfl) (An (An (pv 0) rfl) rfl))
   (Ab (Bf (i := 3) Gx.nd rfl (A7 rfl) (Bl (Aa (C1 Wj (by rfl) M.no_len Cw (Aa (pv 2) Ag)) Ag)))
   (Ab (Yf (Ht PassesOwn.never rfl (Uh (pv 2)) (Dj (i := 4) Gx.nd rfl (A7 rfl)) (Ab (Bf (i := 5) Gx.nd rfl (A7 rfl) (Yg hu (pv 2) (pv 4) (fun _ _ => rfl)))
   (Ai (Cv (M6 B1 Jh Jg Nh (pv 3) (Aa (Bl (Aa (pv 4) (Aa (An (pv 5) rfl) (Aa (An (pv 5) rfl) (Aa (Fu Fv (by rfl) M.no_int C8 (Aa (An (pv 5) rfl) Ag)) Ag))))) Ag)))))))
   (Ai (A1 (pv 3)))))), ?_⟩
  obtain ⟨st, hd, ⟨dt, ht, lt⟩, si⟩ := T.tab;obtain ⟨dp, hpp, lp⟩ := id T.pp;obtain ⟨bs, b0, b1, b2⟩ := T.bd;have hbl := E6 b2;have huq : J2 s.base := W.log.uniq;have blen : s.base.length ≤ 32 := Tj huq W.low.1;refine ⟨_, rfl, _, _, _, _, _, rfl, ht, cT.cls, cT.n 3 rfl, cT.l lt 3 rfl, _, _, _, _, _, rfl, hpp, cP.cls, cP.n 2 rfl, cP.l lp 2 rfl, ?_⟩;refine ⟨_, rfl, A.bd, _, rfl, b1, (by show 1 ≤ sizeLine; decide), fun L nL => ?_⟩;have b1' : H A.bd = some (.dK (bdK bs s.base)) := b1;have zl : (bdK bs s.base).length = s.base.length := by unfold bdK; rw [Aag, hbl, Vm]
  have nLb : L ≠ A.bd := (Av b1 nL).symm;refine ⟨A.bd, _, (New.upd nL) _ _ b1', trivial, fun od => ?_⟩;have fl := fun j => Af3 (f := Vbdlah.rowNumbers) (n := 4) (fun _ => rfl) (s.base.take j);refine ⟨_, rfl, A.bd, rfl, .inl ⟨od, _, Ao, ?_⟩⟩;refine U4 (fun i σ H' => ∃ v4 v5, σ = [some (.ref A.t), some (.ref nl), some (.ref A.bd), some (.ref L), v4, v5] ∧ H' A.bd = some (.frz od (.dK (bdK bs s.base))) ∧ (∀ b o, H b = some o → b ≠ A.bd → H' b = some o) ∧ H' L = some (.lst (((s.base.length : Int) :: (s.base.take i).flatMap Vbdlah.rowNumbers).map V.int)))
   ⟨none, none, rfl, Ao, fun b o h n => by rw [Aw n]; exact (New.upd nL) _ _ h, by rw [Aw nLb, Ao, zl]; rfl⟩ (fun i σ H' ⟨_, _, _, h, _⟩ => h) ?_ ?_
  ·rintro i key v σ H' hi ⟨v4, v5, rfl, hb', k', hL'⟩;unfold bdK at hi;rw [Wx] at hi
   cases hbi : bs[i]? with
   | none => rw [hbi] at hi; cases hi
   | some a =>
    cases hri : s.base[i]? with
    | none => rw [hbi, hri] at hi; cases hi
    | some r =>
     rw [hbi, hri] at hi;obtain ⟨rfl, rfl⟩ : nk r.kind = key ∧ V.ref a = v := by have := Ah hi; exact ⟨congrArg Prod.fst this, congrArg Prod.snd this⟩
     have hva := Acd huq hri hbi;obtain ⟨ds, hsa, ls⟩ := Hz b2 hbi hri;have nab : a ≠ A.bd := Ng hsa b1 (by intro z; cases z);have hsa' := k' _ _ hsa nab;refine ⟨_, rfl, _, rfl, A.bd, V.ref a, rfl, .inl ⟨bdK bs s.base, nk r.kind, .inr ⟨od, hb'⟩, rfl, hva.symm⟩, ?_⟩;refine ⟨_, rfl, .inl ⟨rfl, _, SqL.of hL'⟩, _, rfl, _, rfl, _, _, _, _, _, rfl, hsa', cS.cls, cS.n 0 rfl, cS.l ls 0 rfl, _, rfl, _, _, _, _, _, rfl, hsa', cS.cls, cS.n 1 rfl, cS.l ls 1 rfl, _, rfl, _, _, _, _, _, rfl, hsa', cS.cls, cS.n 2 rfl, cS.l ls 2 rfl, .inr ⟨_, rfl, (by show 4 ≤ sizeLine; decide), fun m nm => ?_⟩⟩;have et : s.base.take (i + 1) = s.base.take i ++ [r] := by rw [Ce, hri]; rfl
     have hls := fl i;rw [Cg] at hls;have nLm : L ≠ m := Av hL' nm;have nbm : A.bd ≠ m := Av hb' nm;refine ⟨L, m, _, _, rfl, rfl, (New.upd nm) _ _ hL', Ao, En (C0 ?_), ?_⟩
     ·rw [Ac, A2, hls];simp only [A2, Fz];omega
     ·refine ⟨_, _, rfl, ?_, fun b o h n => ?_, ?_⟩
      ·rw [Aw nLb.symm, Aw nbm];exact hb'
      ·rw [Aw (Av h nL), Aw (Av (k' _ _ h n) nm)];exact k' _ _ h n
      ·rw [Ao, et, Aah, Kp, Afi, B8, ← Ld, Bb, Aa8];rfl
  ·rintro σ H' ⟨v4, v5, rfl, hb', k', hL'⟩;rw [zl, Cf] at hL';refine ⟨hb', _, rfl, Ky q (l := Vbdlah.rowsShown s.base) rfl T (fun b o h => ?_) nL ?_⟩
   ·by_cases e : b = A.bd
    ·subst e;rw [b1'] at h
     cases h
     exact Ao
    ·rw [Aw e];exact k' b o h e
   ·rw [Aw nLb];exact hL'
def Acm (c : Cs) : Sp := fun vs H Q _ => ∃ (A : AD) (s : Al) (k r : Nat) (b : Bool), vs = [.ref A.pp, .int k, .int r, .bl b] ∧ Tab c A H s ∧ (∀ q ∈ s.base, q.kind ≠ k) ∧ s.base.length ≤ 900 ∧ ∀ H', Tab c A H' { s with seq := s.seq + 1, base := s.base ++ [⟨k, s.seq, r, b⟩] } → Bj A H H' → Q (.int s.seq) H'
theorem G4 : A8 ["self", "kind", "rank", "acknowledged", "number"] ["self", "kind", "rank", "acknowledged"] (Ar s_Paper_carry_over) := by constructor<;>first|rfl|decide +kernel
theorem Sb (D : Dm K c.P "carry_over" "Paper.carry_over" s_Paper_carry_over ["self", "kind", "rank", "acknowledged"]) (cP : CK K c.P pK) (DN : Me P w K mg base c.P "take_number" 1 ["self"] (Acf c)) (DS : Ma P w K mg base c.S "Standing" 1 ["self", "raised_by", "rank", "acknowledged"] (Nw c.S)) :
  Me P w K mg base c.P "carry_over" 3 ["self", "kind", "rank", "acknowledged"] (Acm c) := by
 refine D.me fun f fd F => F.ok G4 (fun vs H Q E h => ?_) (fun cdv A outer s H vs Q E hr h => ?_)
 ·obtain ⟨A, s, k, r, b, rfl, _⟩ := h;rfl
 ·obtain ⟨A, s, k, r, b, rfl, T, hno, hlen, q⟩ := h;have hu1 := U3 hr;refine ⟨_, (Ab (Bf (i := 4) G4.nd rfl (A7 rfl) (Zb DN (pv 0) (hr.mono (by decide))))
   (Ab (Qw hu1 (An (pv 0) rfl) (pv 1) (Ae9 DS (hr.mono (by decide)) rfl (Aa (pv 4) (Aa (pv 2) (Aa (pv 3) Ag)))) rfl)
   (Ai (A1 (pv 4))))), ?_⟩
  obtain ⟨dp, hp, lp⟩ := id T.pp;refine ⟨_, rfl, A.pp, dp, _, rfl, hp, Le (by decide +kernel), A.pp, s.seq, A.el, A.bd, rfl, T.pp, fun H1 o1 e1 => ?_⟩;have T1 : Tab c A H1 { s with seq := s.seq + 1 } := T.next e1 o1;have k1 : Bj A H H1 := Bj.else T.pp e1;obtain ⟨bs, b0, b1, b2⟩ := T1.bd;have hbl := E6 b2;refine ⟨_, rfl, _, rfl, _, rfl, fun x dx nx ndx ne => ?_⟩;refine ⟨x, _, _, _, rfl, Ob0.start, fun H2 o2 e2 => ⟨rfl, ?_⟩⟩;have n2 : New H1 H2 := P6 nx ndx e2;have T2 := T1.same n2;obtain ⟨dp2, hp2, lp2⟩ := id T2.pp;refine ⟨_, rfl, _, _, _, _, _, rfl, hp2, cP.cls, cP.n 2 rfl, cP.l lp2 2 rfl, _, rfl, A.bd, _, rfl, Aad.k (k := nk k) (n2 _ _ b1) ?_, ?_⟩
  ·rw [Aag, hbl, Vm];exact C0 (by show s.base.length ≤ 1000; omega)
  ·have hvn : Fm (bdK bs s.base) (nk k) = none := Acb hno;rw [M0 _ hvn];have hx : x ∉ bs := fun hm => by
    obtain ⟨i, hi⟩ := B2 hm;have : i < s.base.length := by rw [← show bs.length = s.base.length from hbl]; exact (Af.mp hi).1
    obtain ⟨_, h2, _⟩ := Hz b2 hi (Aq this);rw [nx] at h2
    cases h2
   have T3 := T2.bas (bs := bs ++ [x]) (l := s.base ++ [⟨k, s.seq, r, b⟩]) (Qy b0 hx) (Hy (b := ⟨k, s.seq, r, b⟩) (Cd (fun _ _ o => o.new n2) b2) o2);have ez : bdK (bs ++ [x]) (s.base ++ [⟨k, s.seq, r, b⟩]) = bdK bs s.base ++ [(nk k, V.ref x)] := by
    unfold bdK;rw [List.zipWith_append (show bs.length = s.base.length from hbl)];rfl
   rw [ez] at T3;exact ⟨_, rfl, q _ T3 ((k1.trans (Bj.new n2)).trans (Bj.own (by simp [AD.own])))⟩
theorem Tab.paper {A : AD} {H H2 H3 : Hp} {s : Al} (T : Tab c A H s) {x el bd : Addr} {st hd : Nat} (n : New H H2) (hx : Ob c.P pK H2 x [.int 0, .ref el, .ref bd]) (hel : H2 el = some (.lst [])) (hbd : H2 bd = some (.dK [])) (fe : H el = none) (fb : H bd = none) (ot : Ob c.T tK H2 A.t (tv A s st hd)) (e : F6 A.t H2 H3)
  (o : Ob c.T tK H3 A.t (tv { A with pp := x, el := el, bd := bd } { s with seq := 0, log := [], base := [] } st hd)) (si : s.silence = Hw s.now st hd) : Tab c { A with pp := x, el := el, bd := bd } H3 { s with seq := 0, log := [], base := [] } := by
 have T2 := T.same n;refine ⟨⟨st, hd, o, si⟩, ?_, T.klen, fun i a y h1 h2 => (T2.kin i a y h1 h2).else e ((T2.kin i a y h1 h2).apart ot Ahj), T.knd, T2.ln.else e (ot.apart T2.ln Ajd).symm, ?_, fun d hd => ?_, T.dnd, T.tells, hx.else e (ot.apart hx Ahi).symm, ⟨[], ?_, .nil⟩, ⟨[], Kn, ?_, .nil⟩, ?_, ?_, fun d hd => ⟨?_, (T.nin d hd).2⟩⟩
 ·show H3 A.kl = _;rw [e _ (ot.off T2.kl B4)]; exact T2.kl
 ·show H3 A.dr = _;rw [e _ (ot.off T2.dr D1)]; exact T2.dr
 ·rw [e _ (ot.off (T2.din d hd) D1)]; exact T2.din d hd
 ·show H3 el = _;rw [e _ (ot.off hel B4)]; exact hel
 ·show H3 bd = _;rw [e _ (ot.off hbd D1)]; exact hbd
 ·exact (Av T.kl fe).symm
 ·exact (Av T.dr fb).symm
 ·exact Av (T.din d hd) fb
def Ft (s : Al) (i : Nat) : Al := { Vbdlah.renumbered 0 ((Cn s).take i) s with seq := i, log := [], base := Iz 0 ((Cn s).take i) }
theorem Ud {s : Al} (W : Well s) : Ft s (Cn s).length = Vbdlah.renew s := by
 unfold Ft Vbdlah.renew;rw [Cf, Y5 W]
theorem Aaw (s : Al) (i : Nat) : J2 ((Cn s).take i) := Aaq (Afk _ (List.take_sublist _ _)) (Fh s).uniq
theorem Mg {s : Al} {i : Nat} {r : Bk} (hr : (Cn s)[i]? = some r) : (Ft s i).kinds[r.kind]? = s.kinds[r.kind]? := by
 have h := (Ex ((Cn s).take i) 0 s (Aaw s i) (fun q hq => G0 q (List.mem_of_mem_take hq)) r.kind).1;have hno : ((Cn s).take i).findIdx? (fun q => q.kind == r.kind) = none := by
  rw [Qk];intro q hq;have : q.kind ≠ r.kind := fun e => by
   obtain ⟨j, hj⟩ := B2 hq;rw [O5] at hj
   split at hj
   ·rename_i hji;have hun : ((Cn s).map (·.kind)).Nodup := (Fh s).uniq;have := Sf hun (i := j) (j := i) (x := r.kind) (by rw [Ap, hj]; exact congrArg some e) (by rw [Ap, hr]; rfl);omega
   ·cases hj
  simp [this]
 rw [hno] at h;exact h
theorem Rx {s : Al} {i : Nat} {r : Bk} {x : Bo} {u : O1} (hr : (Cn s)[i]? = some r) (hx : s.kinds[r.kind]? = some x) (hu : x.up = some u) (e1 : r.rank = u.rank) (e2 : r.acked = u.acked) :
  Ft s (i + 1) = Au { Ft s i with seq := i + 1, base := (Ft s i).base ++ [⟨r.kind, i, u.rank, u.acked⟩] } r.kind { x with up := some { u with seq := i } } := by
 have hi : i < (Cn s).length := (Af.mp hr).1;have et : (Cn s).take (i + 1) = (Cn s).take i ++ [r] := by rw [Ce, hr]; rfl
 have el : ((Cn s).take i).length = i := by rw [Cg]; omega
 have hk : (Vbdlah.renumbered 0 ((Cn s).take i) s).kinds[r.kind]? = some x := (Mg hr).trans hx;unfold Ft;rw [et, J7, Sk, el, Adl, Pj hk hu, e1, e2];rfl
theorem Tx : A8 ["table", "numbers", "raised", "kind"] ["table", "numbers"] (Ar s_renew) := by constructor<;>first|rfl|decide +kernel
theorem Aeh (D : De K mg "renew" s_renew ["table", "numbers"]) (cT : CK K c.T tK) (cK : CK K c.K kK) (M : Tops mg) (DT : Fn P w K mg base "raised_in_turn" 4 ["table"] (Ace c)) (DP : Ma P w K mg base c.P "Paper" 1 ["self"] (X5 c.P)) (DC : Me P w K mg base c.P "carry_over" 3 ["self", "kind", "rank", "acknowledged"] (Acm c)) :
  Fn P w K mg base "renew" 8 ["table", "numbers"] (Dt c (mk0 .renew)) := by
 refine D.fn fun f fd F => F.ok Tx (fun vs H Q E h => ?_) (fun cdv A outer s H vs Q E hr h => ?_)
 ·obtain ⟨A, s, nl, args, call, rfl, _⟩ := h;rfl
 ·obtain ⟨A, s, nl, args, call, rfl, T, W, hnl, nown, hmk, q⟩ := h;obtain ⟨rfl, rfl⟩ := Gu hmk;refine ⟨_, (Ab (Bf (i := 2) Tx.nd rfl (A7 rfl) (Br DT (hr.mono (by decide)) rfl (Aa (pv 0) Ag)))
   (Ab (Bq (pv 0) (Za DP (hr.mono (by decide)) rfl) rfl)
   (Ab (Ht PassesOwn.never rfl (Es (pv 2)) (Dj (i := 3) Tx.nd rfl (A7 rfl)) (Ai (Bq (pv 3) (Ry DC (An (pv 0) rfl) (hr.mono (by decide)) (Aa (An (pv 3) rfl) (Aa (An (pv 3) rfl) (Aa (An (pv 3) rfl) Ag)))) rfl)))
   (Ai (A1 (Bl (Aa (C1 C2 (by rfl) M.no_len Cw (Aa (pv 2) Ag)) Ag))))))), ?_⟩
  have lim := W.lim;have rlen := Dq s;have rl2 := Y2 s;refine ⟨_, rfl, A, s, rfl, T, W, fun H1 l n1 nl1 hl => ?_⟩;have T1 := T.same n1;intro x dx nx ndx nex;refine ⟨x, rfl, Ob0.start, fun H2 el bd o2 hel hbd fe fb b2 => ⟨rfl, ?_⟩⟩;have n12 : New H1 (upd (upd H1 dx (.own x)) x (.ins c.P dx [])) := fun b u h => by
   rw [Aw (Av h nx), Aw (Av h ndx)];exact h
  have fe1 : H1 el = none := n12.none fe;have fb1 : H1 bd = none := n12.none fb;have n2 : New H1 H2 := P7 nx ndx b2;have T2 := T1.same n2;obtain ⟨st, hd, ot, si⟩ := T2.tab;refine ⟨_, rfl, ?_⟩;refine ot.put cT 3 rfl fun H3 o3 e3 => ?_;have T3 : Tab c { A with pp := x, el := el, bd := bd } H3 { s with seq := 0, log := [], base := [] } := T1.paper n2 o2 hel hbd fe1 fb1 ot e3 o3 si;generalize hA' : ({ A with pp := x, el := el, bd := bd } : AD) = A' at T3;have et : A'.t = A.t := by rw [← hA']
  have eks : A'.ks = A.ks := by rw [← hA']
  have own' : ∀ b o, H1 b = some o → b ∉ A.own → b ∉ A'.own := fun b o h n z => by
   rw [← hA'] at z;simp only [AD.own, Az] at z n
   rcases z with z | z | z | z | z
   ·exact n (.inl z)
   ·exact Av h fe1 z
   ·exact n (.inr (.inr (.inl z)))
   ·exact Av h fb1 z
   ·exact n (.inr (.inr (.inr (.inr z))))
  have hl3 : H3 l = some (.lst ((Ir A (Cn s)).map V.ref)) := by
   rw [e3 l (ot.off (n2 _ _ hl) B4)];exact n2 _ _ hl
  have lown : l ∉ A'.own := own' l _ hl (T.apart nl1);have lu := (Ex (Cn s) 0 s (Fh s).uniq G0 0).1;refine ⟨_, rfl, l, rfl, ⟨_, SqL.of hl3⟩, ?_⟩;refine Jw (K := K) (xs := (Ir A (Cn s)).map V.ref) (fun i σ H' => ∃ v3, σ = [some (.ref A.t), some (.ref nl), some (.ref l), v3] ∧ Tab c A' H' (Ft s i) ∧ Bj A' H3 H') ⟨none, rfl, T3, Bj.refl⟩ (fun i σ H' _ ⟨_, _, _, k⟩ => SqL.of (k _ _ hl3 B4 lown)) ?_ ?_
  ·rintro i y σ H' hi ⟨v3, rfl, T', k'⟩;obtain ⟨r, hri, rfl⟩ := Ra hi;have hil : i < (Cn s).length := (Af.mp hri).1;obtain ⟨y, u, hp, hx, hux, e1, e2, e3'⟩ := T.row (Sr (As hri));have hp' : A'.ks[r.kind]? = some (A.ks.getD r.kind 0) := by rw [eks]; exact hp
   have hx' : (Ft s i).kinds[r.kind]? = some y := (Mg hri).trans hx;obtain ⟨dk, hpk, lk⟩ := T'.kin _ _ y hp' hx';obtain ⟨st', hd', ⟨dt', ht', lt'⟩, si'⟩ := T'.tab;obtain ⟨dp, hpp, lp⟩ := id T'.pp;rw [et] at ht';have hno : ∀ q ∈ (Ft s i).base, q.kind ≠ r.kind := fun q hq e => by
    have hq' : q.kind ∈ ((Cn s).take i).map (·.kind) := by rw [← Lh _ 0]; exact Ay.mpr ⟨q, hq, rfl⟩
    obtain ⟨q2, hq2, e4⟩ := Ay.mp hq';obtain ⟨j, hj⟩ := B2 hq2;rw [O5] at hj
    split at hj
    ·rename_i hji;have hun : ((Cn s).map (·.kind)).Nodup := (Fh s).uniq;have := Sf hun (i := j) (j := i) (x := r.kind) (by rw [Ap, hj]; exact congrArg some (e4.trans e)) (by rw [Ap, hri]; rfl);omega
    ·cases hj
   have bl : (Ft s i).base.length ≤ 900 := by
    show (Iz 0 _).length ≤ 900;rw [Qp, Cg];omega
   refine ⟨_, rfl, _, _, _, _, _, rfl, ht', cT.cls, cT.n 3 rfl, cT.l lt' 3 rfl, A'.pp, dp, _, rfl, hpp, Le (by decide +kernel), _, rfl, _, _, _, _, _, rfl, hpk, cK.cls, cK.n 0 rfl, cK.l lk 0 rfl, _, rfl, _, _, _, _, _, rfl, hpk, cK.cls, cK.n 11 rfl, cK.l lk 11 rfl, _, rfl, _, _, _, _, _, rfl, hpk, cK.cls, cK.n 12 rfl, cK.l lk 12 rfl,
    A', Ft s i, r.kind, B3 y.up, Iy y.up, rfl, T', hno, bl, fun H4 T4 k4 => ?_⟩
   have ok4 := T4.kin _ _ y hp' hx';refine ⟨_, rfl, ?_⟩;refine ok4.put cK 14 rfl fun H5 o5 e5 => ?_;have ekv : kv r.kind { y with up := some { u with seq := i } } = (kv r.kind y).set 14 (V.int (i : Nat)) := by
    unfold kv;rw [hux];rfl
   have T5 := T4.kind (x' := { y with up := some { u with seq := i } }) hp' hx' e5 (by rw [ekv]; exact o5);refine ⟨_, rfl, ?_, (k'.trans k4).trans (Bj.else ok4 e5)⟩;rw [Rx hri hx hux e2 e3'];rw [hux] at T5;exact T5
  ·rintro σ H4 ⟨v3, rfl, T4, k4⟩;rw [J1] at T4;rw [Ud W] at T4;have hl4 := k4 _ _ hl3 B4 lown;refine ⟨_, rfl, l, _, rfl, .inl (SqL.of hl4), ?_⟩;rw [J1];refine Pg q (by unfold Ae; rfl) T4 et fun b o h nn m => ?_;have h1 := n1 b o h;refine ⟨k4 b o ?_ nn (own' b o h1 m), own' b o h1 m⟩;rw [e3 b (ot.off (n2 _ _ h1) nn)];exact n2 _ _ h1
end
def sensed (m : Nat) (s : Al) (i : Nat) : Al := Vbdlah.senseFrom m (Be i) s
def Aco (m : Nat) (t : Al) (k : Nat) : Al := if m.testBit k = true then (Ez t k).1 else (E4 t k).1
theorem Pb (m : Nat) (s : Al) (i : Nat) : sensed m s (i + 1) = Aco m (sensed m s i) i := by
 unfold sensed;rw [Gq, Gq, Fc, Eo];rfl
theorem Well.sensed {s : Al} (W : Well s) (m i : Nat) : Well (sensed m s i) := W.senseFrom m _
theorem Ai2 {m : Int} {n : Nat} (h : 0 ≤ m) : decide (((Builtin.Int.intBits m : Nat) : Int) ≤ (n : Int)) = Bi m 0 ((2 ^ n - 1 : Nat) : Int) := by
 obtain ⟨k, rfl⟩ : ∃ k : Nat, m = (k : Int) := ⟨m.toNat, by omega⟩;have hp : 0 < 2 ^ n := Nat.pow_pos (by decide);have e : ((Builtin.Int.intBits (k : Int) : Nat) : Int) ≤ (n : Int) ↔ k < 2 ^ n := by
  unfold Builtin.Int.intBits
  by_cases hk : k = 0
  ·subst hk;simp [hp]
  ·rw [if_neg (by simpa using hk), Int.natAbs_natCast];have h2 := Nat.log2_lt (n := k) (k := n) hk;omega
 unfold Bi;rw [decide_eq_true (show (0 : Int) ≤ (k : Int) by omega), Bool.true_and];exact decide_eq_decide.mpr (e.trans (by omega))
theorem Agd (m k : Nat) : (Builtin.bitAnd ((m : Int) / 2 ^ ((k : Int)).toNat) 1 = 1) ↔ m.testBit k = true := by
 rw [bitAnd_m1, D8];have e : (m : Int) / 2 ^ k = ((m / 2 ^ k : Nat) : Int) := by norm_cast
 rw [e, Nat.testBit_eq_decide_div_mod_eq, decide_eq_true_iff];omega
section
variable {P : Program} {w : World} {K : Ad} {mg : Str → Option Value} {base : Heap} {C : Addr} {c : Cs}
theorem Mt : A8 ["table", "numbers", "m", "refusal", "next_before", "kind"] ["table", "numbers"] (Ar s_sense) := by constructor<;>first|rfl|decide +kernel
theorem Aef (D : De K mg "sense" s_sense ["table", "numbers"]) (cT : CK K c.T tK) (cK : CK K c.K kK) (cP : CK K c.P pK) (M : Tops mg) (DR : Fn P w K mg base "writing_refusal" 2 ["table", "in_range"] (G8 c))
  (DS : Fn P w K mg base "start_condition" 7 ["table", "kind"] (Sl c Ez)) (DE : Fn P w K mg base "end_condition" 7 ["table", "kind"] (Sl c E4)) :
  Fn P w K mg base "sense" 8 ["table", "numbers"] (Dt c (mk1 .sense)) := by
 refine D.fn fun f fd F => F.ok Mt (fun vs H Q E h => ?_) (fun cdv A outer s H vs Q E hr h => ?_)
 ·obtain ⟨A, s, nl, args, call, rfl, _⟩ := h;rfl
 ·obtain ⟨A, s, nl, args, call, rfl, T, W, hnl, nown, hmk, q⟩ := h;obtain ⟨m, rfl, rfl⟩ := E7 hmk;refine ⟨_, (Ab (Bf (i := 2) Mt.nd rfl (A7 rfl) (Du Cr (pv 1) Ax (fun _ _ => rfl)))
   (Ab (Bf (i := 3) Mt.nd rfl (A7 rfl) (Br DR (hr.mono (by decide)) rfl (Aa (pv 0) (Aa (Ag5 (Ji Abb (pv 2) Ax (Cq _)) (Acy (Ji Aed (Ag4 PySem.F.plainAttrs_int PySem.F.slot_int_bit_length PySem.F.type_int_bit_length Abn (pv 2)) (C1 C2 (by rfl) M.no_len Cw (Aa (An (pv 0) rfl) Ag)) (Cq _)))) Ag))))
   (Ab (Ca (B6 Kb (pv 3) Ax (Cq _)) (Ai (A1 (Bl (Aa (pv 3) Ag)))) Bg)
   (Ab (Bf (i := 4) Mt.nd rfl (A7 rfl) (An (An (pv 0) rfl) rfl))
   (Ab (Ht PassesOwn.never rfl (Es (An (pv 0) rfl)) (Dj (i := 5) Mt.nd rfl (A7 rfl)) (Ai (Ca (B6 M8 (Et Aj6 (Et Aj5 (pv 2) (An (pv 5) rfl)) Ax) Ax (Cq _)) (Ai (Cv (Br DS (hr.mono (by decide)) rfl (Aa (pv 0) (Aa (pv 5) Ag))))) (Ai (Cv (Br DE (hr.mono (by decide)) rfl (Aa (pv 0) (Aa (pv 5) Ag))))))))
   (Ai (A1 (Bl (Aa (Et K2 (An (An (pv 0) rfl) rfl) (pv 4)) Ag))))))))), ?_⟩
  obtain ⟨st, hd, ⟨dt, ht, lt⟩, si⟩ := T.tab;obtain ⟨dp, hp, lp⟩ := id T.pp;refine ⟨_, rfl, nl, _, _, _, rfl, rfl, SqL.of hnl, Ew (j := 0) rfl rfl, ?_⟩;refine ⟨_, rfl, _, rfl, _, _, rfl, rfl, _, rfl, Cm (fun hm => ?_) (fun hm => ?_)⟩
  ·have hm : 0 ≤ m := of_decide_eq_true hm;refine ⟨_, rfl, rfl, m, rfl, rfl, _, rfl, _, _, _, _, _, rfl, ht, cT.cls, cT.n 0 rfl, cT.l lt 0 rfl, _, _, rfl, .inl (SqL.of T.kl), _, _, rfl, rfl, ?_⟩;have eb : decide (((Builtin.Int.intBits m : Nat) : Int) ≤ (((A.ks.map V.ref).length : Nat) : Int)) = Bi m 0 ((2 ^ s.kinds.length - 1 : Nat) : Int) := by rw [Ac, T.klen]; exact Ai2 hm
   refine ⟨A, s, _, congrArg (fun b => [V.ref A.t, V.bl b]) eb, T, ?_⟩;refine ⟨_, rfl, _, _, rfl, rfl, _, rfl, Cm (fun hn => ?_) (fun hn => ?_)⟩
   ·refine ⟨_, rfl, ?_⟩
    rcases F3 (of_decide_eq_true hn) with ⟨h1, h2⟩ | ⟨h1, h2, h3⟩
    ·rw [h2]; exact D4 q (by unfold Ae; simp only [h1]; rfl) T Bj.refl
    ·rw [h3]; exact D4 q (by unfold Ae; simp only [h1, h2]; rfl) T Bj.refl
   ·obtain ⟨h1, h2⟩ := Gz fun z => hn (decide_eq_true z);obtain ⟨m, rfl⟩ : ∃ k : Nat, m = (k : Int) := ⟨m.toNat, by omega⟩;refine ⟨_, rfl, _, _, _, _, _, rfl, ht, cT.cls, cT.n 3 rfl, cT.l lt 3 rfl, _, _, _, _, _, rfl, hp, cP.cls, cP.n 0 rfl, cP.l lp 0 rfl, ?_⟩;refine ⟨_, rfl, _, _, _, _, _, rfl, ht, cT.cls, cT.n 0 rfl, cT.l lt 0 rfl, A.kl, rfl, ⟨_, SqL.of T.kl⟩, Ad6 (K := K) (A := A)
     (fun i σ H' => ∃ v5, σ = [some (.ref A.t), some (.ref nl), some (.int m), some (.int (K0 (Bi m 0 ((2 ^ s.kinds.length - 1 : Nat) : Int)) s)), some (.int s.seq), v5] ∧ Tab c A H' (sensed m s i) ∧ Bj A H H')
     ⟨none, rfl, T, Bj.refl⟩ (fun i σ H' ⟨_, _, T, _⟩ => T.kl) ?_ ?_⟩
    ·rintro i p σ H' hp' ⟨v5, rfl, T2, k2⟩;have W2 := W.sensed m i;obtain ⟨x, hx⟩ := T2.kindAt hp';obtain ⟨dk, hk, lk⟩ := T2.kin i p x hp' hx;refine ⟨_, rfl, _, rfl, _, _, _, _, _, rfl, hk, cK.cls, cK.n 0 rfl, cK.l lk 0 rfl, _, _, rfl, rfl, (by show (0 : Int) ≤ (i : Int); omega), _, _, rfl, rfl, rfl, _, rfl, Cm (fun hb => ?_) (fun hb => ?_)⟩
     ·have hb : m.testBit i = true := (Agd m i).mp (V.int.inj (of_decide_eq_true hb));refine ⟨_, rfl, _, rfl, A, _, i, p, rfl, hp', T2, W2.pap, W2.lim, fun H3 T3 k3 => ?_⟩;refine ⟨_, rfl, ?_, k2.trans k3⟩;rw [Pb];unfold Aco;rw [if_pos hb];exact T3
     ·have hb : ¬ m.testBit i = true := fun z => hb (decide_eq_true (congrArg V.int ((Agd m i).mpr z)));refine ⟨_, rfl, _, rfl, A, _, i, p, rfl, hp', T2, W2.pap, W2.lim, fun H3 T3 k3 => ?_⟩;refine ⟨_, rfl, ?_, k2.trans k3⟩;rw [Pb];unfold Aco;rw [if_neg hb];exact T3
    ·rintro σ H1 ⟨v5, rfl, T1, k1⟩;rw [T.klen] at T1;have T1 : Tab c A H1 (Vp s m) := T1;obtain ⟨st1, hd1, ⟨dt1, ht1, lt1⟩, si1⟩ := T1.tab;obtain ⟨dp1, hp1, lp1⟩ := id T1.pp;refine ⟨_, rfl, _, _, _, _, _, rfl, ht1, cT.cls, cT.n 3 rfl, cT.l lt1 3 rfl, _, _, _, _, _, rfl, hp1, cP.cls, cP.n 0 rfl, cP.l lp1 0 rfl, _, rfl, _, _, rfl, rfl, ?_⟩;have e : ((Vp s m).seq : Int) - (s.seq : Int) = Om s (Vp s m) := V2 (Ab0 m (E5 s) s);have z := D4 (v := Om s (Vp s m)) q (by unfold Ae; simp only [h1, h2, D8]; rfl) T1 k1;rw [← e] at z;exact z
  ·have hm : ¬ 0 ≤ m := fun z => hm (decide_eq_true z);refine ⟨A, s, false, rfl, T, ?_⟩;have h1 : Bi m 0 ((2 ^ s.kinds.length - 1 : Nat) : Int) = false := by
    unfold Bi;rw [decide_eq_false hm];rfl
   refine ⟨_, rfl, _, _, rfl, rfl, _, rfl, U2 ?_⟩;exact ⟨_, rfl, D4 q (by unfold Ae; simp only [h1]; rfl) T Bj.refl⟩
end
def A3 (x qual : Str) (st : Stmt) (ps : List Str) : Prop := ∀ (kV doc pm : Value) (an : Option Addr) (cdv ct : Value) (us : List Value), us.length = ps.length → bindArgs (Ds x qual (F5 st) (Fo st) (Ar st) .none kV doc pm an cdv ct) ⟨us, []⟩ = pure (ps.zip us)
theorem bd1 {x q : Str} {st : Stmt} {p0 : Str} (h : ∀ kV doc pm an cdv ct a0, bindArgs (Ds x q (F5 st) (Fo st) (Ar st) .none kV doc pm an cdv ct) ⟨[a0], []⟩ = pure (([p0] : List Str).zip [a0])) : A3 x q st [p0] := fun _ _ _ _ _ _ us hl => match us, hl with | [_], _ => h _ _ _ _ _ _ _
theorem bd2 {x q : Str} {st : Stmt} {p0 p1 : Str} (h : ∀ kV doc pm an cdv ct a0 a1, bindArgs (Ds x q (F5 st) (Fo st) (Ar st) .none kV doc pm an cdv ct) ⟨[a0, a1], []⟩ = pure (([p0, p1] : List Str).zip [a0, a1])) : A3 x q st [p0, p1] := fun _ _ _ _ _ _ us hl => match us, hl with | [_, _], _ => h _ _ _ _ _ _ _ _
theorem bd3 {x q : Str} {st : Stmt} {p0 p1 p2 : Str} (h : ∀ kV doc pm an cdv ct a0 a1 a2, bindArgs (Ds x q (F5 st) (Fo st) (Ar st) .none kV doc pm an cdv ct) ⟨[a0, a1, a2], []⟩ = pure (([p0, p1, p2] : List Str).zip [a0, a1, a2])) : A3 x q st [p0, p1, p2] := fun _ _ _ _ _ _ us hl => match us, hl with | [_, _, _], _ => h _ _ _ _ _ _ _ _ _
theorem bd4 {x q : Str} {st : Stmt} {p0 p1 p2 p3 : Str} (h : ∀ kV doc pm an cdv ct a0 a1 a2 a3, bindArgs (Ds x q (F5 st) (Fo st) (Ar st) .none kV doc pm an cdv ct) ⟨[a0, a1, a2, a3], []⟩ = pure (([p0, p1, p2, p3] : List Str).zip [a0, a1, a2, a3])) : A3 x q st [p0, p1, p2, p3] := fun _ _ _ _ _ _ us hl => match us, hl with | [_, _, _, _], _ => h _ _ _ _ _ _ _ _ _ _
theorem bd5 {x q : Str} {st : Stmt} {p0 p1 p2 p3 p4 : Str} (h : ∀ kV doc pm an cdv ct a0 a1 a2 a3 a4, bindArgs (Ds x q (F5 st) (Fo st) (Ar st) .none kV doc pm an cdv ct) ⟨[a0, a1, a2, a3, a4], []⟩ = pure (([p0, p1, p2, p3, p4] : List Str).zip [a0, a1, a2, a3, a4])) : A3 x q st [p0, p1, p2, p3, p4] := fun _ _ _ _ _ _ us hl => match us, hl with | [_, _, _, _, _], _ => h _ _ _ _ _ _ _ _ _ _ _
theorem bd6 {x q : Str} {st : Stmt} {p0 p1 p2 p3 p4 p5 : Str} (h : ∀ kV doc pm an cdv ct a0 a1 a2 a3 a4 a5, bindArgs (Ds x q (F5 st) (Fo st) (Ar st) .none kV doc pm an cdv ct) ⟨[a0, a1, a2, a3, a4, a5], []⟩ = pure (([p0, p1, p2, p3, p4, p5] : List Str).zip [a0, a1, a2, a3, a4, a5])) : A3 x q st [p0, p1, p2, p3, p4, p5] := fun _ _ _ _ _ _ us hl => match us, hl with | [_, _, _, _, _, _], _ => h _ _ _ _ _ _ _ _ _ _ _ _
def Ac7 (K : Ad) (C : Addr) : List Str → Prop
 | [] => True
 | f :: l => Dy K (.ref C) f = some none ∧ Ac7 K C l
theorem Ac7.mem {K : Ad} {C : Addr} : ∀ {l : List Str}, Ac7 K C l → ∀ f ∈ l, Je K C f
 | [], _, f, hf => by cases hf
 | g :: l, h, f, hf => by
  rcases Az.mp hf with rfl | hf
  ·exact h.1
  ·exact Ac7.mem h.2 f hf
section
variable {K : Ad} {h : Heap} {mg : Str → Option Value} {R : Prop} {x qual m : Str} {C f : Addr} {st : Stmt} {ps ks : List Str} {od an : Option Addr} {sl : Array (Option Value)} {oc kV doc pm cdv ct : Value}
theorem w_cls (X : K.In h) (G : h.Ns mainGlobals mg) (nd : ks.Nodup) (few : ks.length < 1000) (a : Kl K mainGlobals x = some (some (.ref C))) (pg : Lb K C Str.empty = true) (hd : Rc K C = true) (po : Adi K C = true)
  (sa : Dy K (.ref C) "__setattr__" = some (some (.builtin "object.__setattr__"))) (nn : Ac7 K C ks) (k : mg x = some (.ref C) → CK K C ks → R) : R := k (L9 X G a) ⟨⟨pg, hd, po, sa⟩, nn.mem, nd, few⟩
theorem w_di (X : K.In h) (hm : mg x = some (.ref C)) (b : A3 "__init__" qual st ps) (mk : Agi K C = true) (i : Dy K (.ref C) "__init__" = some (some (.ref f))) (fn : Vi K (.ref f) = true) (kc : Dx K (.ref C) = true)
  (l : K.lookup f = some ⟨oc, od, .func (Ds "__init__" qual (F5 st) (Fo st) (Ar st) .none kV doc pm an cdv ct), sl⟩) (c : Km K cdv qual = true) (kf : Dx K (.ref f) = true) (k : Di K mg C x qual st ps → R) : R :=
 k ⟨f, _, S8 l c kf, ⟨mk, i, fn, kc⟩, hm, (S8 l c kf).binds b⟩
theorem w_dm (cl : Cls K C) (b : A3 m qual st ps) (i : Dy K (.ref C) m = some (some (.ref f))) (fn : Vi K (.ref f) = true)
  (l : K.lookup f = some ⟨oc, od, .func (Ds m qual (F5 st) (Fo st) (Ar st) .none kV doc pm an cdv ct), sl⟩) (c : Km K cdv qual = true) (kf : Dx K (.ref f) = true) (k : Dm K C m qual st ps → R) : R :=
 k ⟨f, _, S8 l c kf, cl, ⟨i, fn, kf⟩, (S8 l c kf).binds b⟩
theorem w_de (X : K.In h) (G : h.Ns mainGlobals mg) (b : A3 x x st ps) (a : Kl K mainGlobals x = some (some (.ref f))) (l : K.lookup f = some ⟨oc, od, .func (Ds x x (F5 st) (Fo st) (Ar st) .none kV doc pm an cdv ct), sl⟩)
  (c : Km K cdv x = true) (kf : Dx K (.ref f) = true) (k : mg x = some (.ref f) → De K mg x st ps → R) : R :=
 have g := L9 X G a
 k g ⟨f, _, S8 l c kf, g, (S8 l c kf).binds b⟩
theorem w_gi {i : Int} {t : Tok} (X : K.In h) (G : h.Ns mainGlobals mg) (a : Kl K mainGlobals x = some (some (.int i t))) (k : GI mg x i → R) : R := k ⟨t, L9 X G a⟩
theorem w_no (X : K.In h) (G : h.Ns mainGlobals mg) (a : Kl K mainGlobals x = some none) (k : mg x = none → R) : R := k (PySem.W.mg_none_of X G a)
theorem w_dict {es : Array DictEntry} {ep : Nat} (X : K.In h) (G : h.Ns mainGlobals mg) (a : Kl K mainGlobals x = some (some (.ref C))) (l : K.lookup C = some ⟨.type "dict", none, .dict es ep, #[]⟩) (sy : (C == sysModules) = false) (ky : Ad5 es.toList = true)
  (k : mg x = some (.ref C) → KD K C es.toList → R) : R := k (L9 X G a) ⟨⟨ep, by simpa using l⟩, sy, ky⟩
theorem Od {b : Addr} {lo hi : Int} {t t' : Tok} {n : Nat} {o1 : Option Addr} {s1 : Array (Option Value)} (l : K.lookup b = some ⟨.type "tuple", o1, .seq #[.int lo t, .int hi t'] n, s1⟩) : KT K b [.int lo, .int hi] :=
 ⟨_, _, n, l, rfl, rfl, by show 2 ≤ sizeLine; decide, .cons ⟨t, rfl⟩ (.cons ⟨t', rfl⟩ .nil)⟩
theorem w_ranges {b0 b1 b2 b3 b4 b5 : Addr} {n n0 n1 n2 n3 n4 n5 : Nat} {t0 t1 t2 t3 t4 t5 u0 u1 u2 u3 u4 u5 : Tok} {o0 o1 o2 o3 o4 o5 : Option Addr} {s0 s1 s2 s3 s4 s5 : Array (Option Value)} (X : K.In h) (G : h.Ns mainGlobals mg)
  (a : Kl K mainGlobals "DEFINITION_RANGES" = some (some (.ref C))) (l : K.lookup C = some ⟨.type "tuple", od, .seq #[.ref b0, .ref b1, .ref b2, .ref b3, .ref b4, .ref b5] n, sl⟩)
  (l0 : K.lookup b0 = some ⟨.type "tuple", o0, .seq #[.int 0 t0, .int 3 u0] n0, s0⟩) (l1 : K.lookup b1 = some ⟨.type "tuple", o1, .seq #[.int 0 t1, .int 1 u1] n1, s1⟩) (l2 : K.lookup b2 = some ⟨.type "tuple", o2, .seq #[.int 0 t2, .int 3600 u2] n2, s2⟩)
  (l3 : K.lookup b3 = some ⟨.type "tuple", o3, .seq #[.int 0 t3, .int 3600 u3] n3, s3⟩) (l4 : K.lookup b4 = some ⟨.type "tuple", o4, .seq #[.int 0 t4, .int 3600 u4] n4, s4⟩) (l5 : K.lookup b5 = some ⟨.type "tuple", o5, .seq #[.int 0 t5, .int 65535 u5] n5, s5⟩) (k : Ade K mg → R) : R := by
 refine k ⟨C, [b0, b1, b2, b3, b4, b5], L9 X G a, ⟨_, _, n, l, rfl, rfl, by show 6 ≤ sizeLine; decide, .cons rfl (.cons rfl (.cons rfl (.cons rfl (.cons rfl (.cons rfl .nil)))))⟩, rfl, fun i b r h1 h2 => ?_⟩;unfold ranges at h2
 match i, h1, h2 with
 | 0, h1, h2 => cases h1; cases h2; exact Od l0
 | 1, h1, h2 => cases h1; cases h2; exact Od l1
 | 2, h1, h2 => cases h1; cases h2; exact Od l2
 | 3, h1, h2 => cases h1; cases h2; exact Od l3
 | 4, h1, h2 => cases h1; cases h2; exact Od l4
 | 5, h1, h2 => cases h1; cases h2; exact Od l5
 | i + 6, h1, h2 => simp at h1
theorem w_ranks {n : Nat} {t0 t1 t2 t3 : Tok} (X : K.In h) (G : h.Ns mainGlobals mg) (a : Kl K mainGlobals "RANKS" = some (some (.ref C))) (l : K.lookup C = some ⟨.type "tuple", od, .seq #[.int 0 t0, .int 1 t1, .int 2 t2, .int 3 t3] n, sl⟩) (k : Ai8 K mg → R) : R :=
 k ⟨C, L9 X G a, _, _, n, l, rfl, rfl, by show 4 ≤ sizeLine; decide, .cons ⟨t0, rfl⟩ (.cons ⟨t1, rfl⟩ (.cons ⟨t2, rfl⟩ (.cons ⟨t3, rfl⟩ .nil)))⟩
end
theorem b_Event_init : A3 "__init__" "Event.__init__" s_Event_init ["self", "number", "clock", "kind", "what", "rank"] := bd6 fun _ _ _ _ _ _ _ _ _ _ _ _ => rfl
theorem b_Standing_init : A3 "__init__" "Standing.__init__" s_Standing_init ["self", "raised_by", "rank", "acknowledged"] := bd4 fun _ _ _ _ _ _ _ _ _ _ => rfl
theorem b_Paper_init : A3 "__init__" "Paper.__init__" s_Paper_init ["self"] := bd1 fun _ _ _ _ _ _ _ => rfl
theorem b_Paper_at_end : A3 "at_end" "Paper.at_end" s_Paper_at_end ["self"] := bd1 fun _ _ _ _ _ _ _ => rfl
theorem b_Paper_take_number : A3 "take_number" "Paper.take_number" s_Paper_take_number ["self"] := bd1 fun _ _ _ _ _ _ _ => rfl
theorem b_Paper_carry_over : A3 "carry_over" "Paper.carry_over" s_Paper_carry_over ["self", "kind", "rank", "acknowledged"] := bd4 fun _ _ _ _ _ _ _ _ _ _ => rfl
theorem b_Paper_write : A3 "write" "Paper.write" s_Paper_write ["self", "clock", "kind", "what", "rank"] := bd5 fun _ _ _ _ _ _ _ _ _ _ _ => rfl
theorem b_Paper_move_into_base : A3 "move_into_base" "Paper.move_into_base" s_Paper_move_into_base ["self", "event"] := bd2 fun _ _ _ _ _ _ _ _ => rfl
theorem b_Links_init : A3 "__init__" "Links.__init__" s_Links_init ["self"] := bd1 fun _ _ _ _ _ _ _ => rfl
theorem b_Links_put : A3 "put" "Links.put" s_Links_put ["self", "a", "b"] := bd3 fun _ _ _ _ _ _ _ _ _ => rfl
theorem b_Links_take_away : A3 "take_away" "Links.take_away" s_Links_take_away ["self", "a", "b"] := bd3 fun _ _ _ _ _ _ _ _ _ => rfl
theorem b_Links_all_before : A3 "all_before" "Links.all_before" s_Links_all_before ["self", "k"] := bd2 fun _ _ _ _ _ _ _ _ => rfl
theorem b_Kind_init : A3 "__init__" "Kind.__init__" s_Kind_init ["self", "number", "definition"] := bd3 fun _ _ _ _ _ _ _ _ _ => rfl
theorem b_Table_init : A3 "__init__" "Table.__init__" s_Table_init ["self"] := bd1 fun _ _ _ _ _ _ _ => rfl
theorem b_is_silent : A3 "is_silent" "is_silent" s_is_silent ["table"] := bd1 fun _ _ _ _ _ _ _ => rfl
theorem b_is_shelved : A3 "is_shelved" "is_shelved" s_is_shelved ["table", "kind"] := bd2 fun _ _ _ _ _ _ _ _ => rfl
theorem b_raised_kinds : A3 "raised_kinds" "raised_kinds" s_raised_kinds ["table"] := bd1 fun _ _ _ _ _ _ _ => rfl
theorem b_raising_number : A3 "raising_number" "raising_number" s_raising_number ["kind"] := bd1 fun _ _ _ _ _ _ _ => rfl
theorem b_raised_in_turn : A3 "raised_in_turn" "raised_in_turn" s_raised_in_turn ["table"] := bd1 fun _ _ _ _ _ _ _ => rfl
theorem b_write_event : A3 "write_event" "write_event" s_write_event ["table", "kind", "what"] := bd3 fun _ _ _ _ _ _ _ _ _ => rfl
theorem b_raise_kind : A3 "raise_kind" "raise_kind" s_raise_kind ["table", "kind"] := bd2 fun _ _ _ _ _ _ _ _ => rfl
theorem b_grow_rank : A3 "grow_rank" "grow_rank" s_grow_rank ["table", "kind"] := bd2 fun _ _ _ _ _ _ _ _ => rfl
theorem b_sound_again : A3 "sound_again" "sound_again" s_sound_again ["table", "kind"] := bd2 fun _ _ _ _ _ _ _ _ => rfl
theorem b_acknowledge : A3 "acknowledge" "acknowledge" s_acknowledge ["table", "kind"] := bd2 fun _ _ _ _ _ _ _ _ => rfl
theorem b_go_by_itself : A3 "go_by_itself" "go_by_itself" s_go_by_itself ["table", "kind"] := bd2 fun _ _ _ _ _ _ _ _ => rfl
theorem b_reset_kind : A3 "reset_kind" "reset_kind" s_reset_kind ["table", "kind"] := bd2 fun _ _ _ _ _ _ _ _ => rfl
theorem b_lower : A3 "lower" "lower" s_lower ["table", "kind"] := bd2 fun _ _ _ _ _ _ _ _ => rfl
theorem b_start_condition : A3 "start_condition" "start_condition" s_start_condition ["table", "kind"] := bd2 fun _ _ _ _ _ _ _ _ => rfl
theorem b_end_condition : A3 "end_condition" "end_condition" s_end_condition ["table", "kind"] := bd2 fun _ _ _ _ _ _ _ _ => rfl
theorem b_sound_level : A3 "sound_level" "sound_level" s_sound_level ["table"] := bd1 fun _ _ _ _ _ _ _ => rfl
theorem b_within : A3 "within" "within" s_within ["number", "least", "greatest"] := bd3 fun _ _ _ _ _ _ _ _ _ => rfl
theorem b_has_kind : A3 "has_kind" "has_kind" s_has_kind ["table", "k"] := bd2 fun _ _ _ _ _ _ _ _ => rfl
theorem b_raised_before : A3 "raised_before" "raised_before" s_raised_before ["table", "k"] := bd2 fun _ _ _ _ _ _ _ _ => rfl
theorem b_reset_refusal : A3 "reset_refusal" "reset_refusal" s_reset_refusal ["table", "kind"] := bd2 fun _ _ _ _ _ _ _ _ => rfl
theorem b_next_to_reset : A3 "next_to_reset" "next_to_reset" s_next_to_reset ["table"] := bd1 fun _ _ _ _ _ _ _ => rfl
theorem b_reset_order : A3 "reset_order" "reset_order" s_reset_order ["table"] := bd1 fun _ _ _ _ _ _ _ => rfl
theorem b_least_free : A3 "least_free" "least_free" s_least_free ["waits_for"] := bd1 fun _ _ _ _ _ _ _ => rfl
theorem b_counted : A3 "counted" "counted" s_counted ["numbers"] := bd1 fun _ _ _ _ _ _ _ => rfl
theorem b_tell_sound : A3 "tell_sound" "tell_sound" s_tell_sound ["table", "numbers"] := bd2 fun _ _ _ _ _ _ _ _ => rfl
theorem b_tell_stops : A3 "tell_stops" "tell_stops" s_tell_stops ["table", "numbers"] := bd2 fun _ _ _ _ _ _ _ _ => rfl
theorem b_tell_shown : A3 "tell_shown" "tell_shown" s_tell_shown ["table", "numbers"] := bd2 fun _ _ _ _ _ _ _ _ => rfl
theorem b_urgency : A3 "urgency" "urgency" s_urgency ["kind"] := bd1 fun _ _ _ _ _ _ _ => rfl
theorem b_tell_kind : A3 "tell_kind" "tell_kind" s_tell_kind ["table", "numbers"] := bd2 fun _ _ _ _ _ _ _ _ => rfl
theorem b_tell_tally : A3 "tell_tally" "tell_tally" s_tell_tally ["table", "numbers"] := bd2 fun _ _ _ _ _ _ _ _ => rfl
theorem b_tell_first : A3 "tell_first" "tell_first" s_tell_first ["table", "numbers"] := bd2 fun _ _ _ _ _ _ _ _ => rfl
theorem b_tell_before : A3 "tell_before" "tell_before" s_tell_before ["table", "numbers"] := bd2 fun _ _ _ _ _ _ _ _ => rfl
theorem b_tell_behind : A3 "tell_behind" "tell_behind" s_tell_behind ["table", "numbers"] := bd2 fun _ _ _ _ _ _ _ _ => rfl
theorem b_tell_order : A3 "tell_order" "tell_order" s_tell_order ["table", "numbers"] := bd2 fun _ _ _ _ _ _ _ _ => rfl
theorem b_tell_why : A3 "tell_why" "tell_why" s_tell_why ["table", "numbers"] := bd2 fun _ _ _ _ _ _ _ _ => rfl
theorem b_tell_log : A3 "tell_log" "tell_log" s_tell_log ["table", "numbers"] := bd2 fun _ _ _ _ _ _ _ _ => rfl
theorem b_tell_base : A3 "tell_base" "tell_base" s_tell_base ["table", "numbers"] := bd2 fun _ _ _ _ _ _ _ _ => rfl
theorem b_tell_time : A3 "tell_time" "tell_time" s_tell_time ["table", "numbers"] := bd2 fun _ _ _ _ _ _ _ _ => rfl
theorem b_tell : A3 "tell" "tell" s_tell ["table", "place", "numbers"] := bd3 fun _ _ _ _ _ _ _ _ _ => rfl
theorem b_pass_seconds : A3 "pass_seconds" "pass_seconds" s_pass_seconds ["table", "n"] := bd2 fun _ _ _ _ _ _ _ _ => rfl
theorem b_seconds_to_deed : A3 "seconds_to_deed" "seconds_to_deed" s_seconds_to_deed ["kind", "clock"] := bd2 fun _ _ _ _ _ _ _ _ => rfl
theorem b_waiting_limit : A3 "waiting_limit" "waiting_limit" s_waiting_limit ["kind"] := bd1 fun _ _ _ _ _ _ _ => rfl
theorem b_counting_start : A3 "counting_start" "counting_start" s_counting_start ["kind", "clock"] := bd2 fun _ _ _ _ _ _ _ _ => rfl
theorem b_count_seconds : A3 "count_seconds" "count_seconds" s_count_seconds ["kind", "clock", "step"] := bd3 fun _ _ _ _ _ _ _ _ _ => rfl
theorem b_do_deed : A3 "do_deed" "do_deed" s_do_deed ["table", "kind"] := bd2 fun _ _ _ _ _ _ _ _ => rfl
theorem b_writing_refusal : A3 "writing_refusal" "writing_refusal" s_writing_refusal ["table", "in_range"] := bd2 fun _ _ _ _ _ _ _ _ => rfl
theorem b_define : A3 "define" "define" s_define ["table", "numbers"] := bd2 fun _ _ _ _ _ _ _ _ => rfl
theorem b_link : A3 "link" "link" s_link ["table", "numbers"] := bd2 fun _ _ _ _ _ _ _ _ => rfl
theorem b_unlink : A3 "unlink" "unlink" s_unlink ["table", "numbers"] := bd2 fun _ _ _ _ _ _ _ _ => rfl
theorem b_on : A3 "on" "on" s_on ["table", "numbers"] := bd2 fun _ _ _ _ _ _ _ _ => rfl
theorem b_off : A3 "off" "off" s_off ["table", "numbers"] := bd2 fun _ _ _ _ _ _ _ _ => rfl
theorem b_sense : A3 "sense" "sense" s_sense ["table", "numbers"] := bd2 fun _ _ _ _ _ _ _ _ => rfl
theorem b_tick : A3 "tick" "tick" s_tick ["table", "numbers"] := bd2 fun _ _ _ _ _ _ _ _ => rfl
theorem b_ack : A3 "ack" "ack" s_ack ["table", "numbers"] := bd2 fun _ _ _ _ _ _ _ _ => rfl
theorem b_ack_to : A3 "ack_to" "ack_to" s_ack_to ["table", "numbers"] := bd2 fun _ _ _ _ _ _ _ _ => rfl
theorem b_silence : A3 "silence" "silence" s_silence ["table", "numbers"] := bd2 fun _ _ _ _ _ _ _ _ => rfl
theorem b_reset : A3 "reset" "reset" s_reset ["table", "numbers"] := bd2 fun _ _ _ _ _ _ _ _ => rfl
theorem b_reset_all : A3 "reset_all" "reset_all" s_reset_all ["table", "numbers"] := bd2 fun _ _ _ _ _ _ _ _ => rfl
theorem b_shelve : A3 "shelve" "shelve" s_shelve ["table", "numbers"] := bd2 fun _ _ _ _ _ _ _ _ => rfl
theorem b_unshelve : A3 "unshelve" "unshelve" s_unshelve ["table", "numbers"] := bd2 fun _ _ _ _ _ _ _ _ => rfl
theorem b_set_clock : A3 "set_clock" "set_clock" s_set_clock ["table", "numbers"] := bd2 fun _ _ _ _ _ _ _ _ => rfl
theorem b_renew : A3 "renew" "renew" s_renew ["table", "numbers"] := bd2 fun _ _ _ _ _ _ _ _ => rfl
theorem b_change : A3 "change" "change" s_change ["table", "place", "numbers"] := bd3 fun _ _ _ _ _ _ _ _ _ => rfl
theorem b_answer : A3 "answer" "answer" s_answer ["table", "place", "numbers"] := bd3 fun _ _ _ _ _ _ _ _ _ => rfl
theorem b_answers : A3 "answers" "answers" s_answers ["calls"] := bd1 fun _ _ _ _ _ _ _ => rfl
structure Text (K : Ad) (mg : Str → Option Value) (c : Cs) (aC aA aW : Addr) (es ea ew : List DictEntry) : Prop where
 c_E : CK K c.E eK
 c_S : CK K c.S sK
 c_P : CK K c.P pK
 c_L : CK K c.L lK
 c_K : CK K c.K kK
 c_T : CK K c.T tK
 i_Event : Di K mg c.E "Event" "Event.__init__" s_Event_init ["self", "number", "clock", "kind", "what", "rank"]
 i_Standing : Di K mg c.S "Standing" "Standing.__init__" s_Standing_init ["self", "raised_by", "rank", "acknowledged"]
 i_Paper : Di K mg c.P "Paper" "Paper.__init__" s_Paper_init ["self"]
 i_Links : Di K mg c.L "Links" "Links.__init__" s_Links_init ["self"]
 i_Kind : Di K mg c.K "Kind" "Kind.__init__" s_Kind_init ["self", "number", "definition"]
 i_Table : Di K mg c.T "Table" "Table.__init__" s_Table_init ["self"]
 m_Paper_at_end : Dm K c.P "at_end" "Paper.at_end" s_Paper_at_end ["self"]
 m_Paper_take_number : Dm K c.P "take_number" "Paper.take_number" s_Paper_take_number ["self"]
 m_Paper_carry_over : Dm K c.P "carry_over" "Paper.carry_over" s_Paper_carry_over ["self", "kind", "rank", "acknowledged"]
 m_Paper_write : Dm K c.P "write" "Paper.write" s_Paper_write ["self", "clock", "kind", "what", "rank"]
 m_Paper_move_into_base : Dm K c.P "move_into_base" "Paper.move_into_base" s_Paper_move_into_base ["self", "event"]
 m_Links_put : Dm K c.L "put" "Links.put" s_Links_put ["self", "a", "b"]
 m_Links_take_away : Dm K c.L "take_away" "Links.take_away" s_Links_take_away ["self", "a", "b"]
 m_Links_all_before : Dm K c.L "all_before" "Links.all_before" s_Links_all_before ["self", "k"]
 d_is_silent : De K mg "is_silent" s_is_silent ["table"]
 d_is_shelved : De K mg "is_shelved" s_is_shelved ["table", "kind"]
 d_raised_kinds : De K mg "raised_kinds" s_raised_kinds ["table"]
 d_raising_number : De K mg "raising_number" s_raising_number ["kind"]
 d_raised_in_turn : De K mg "raised_in_turn" s_raised_in_turn ["table"]
 d_write_event : De K mg "write_event" s_write_event ["table", "kind", "what"]
 d_raise_kind : De K mg "raise_kind" s_raise_kind ["table", "kind"]
 d_grow_rank : De K mg "grow_rank" s_grow_rank ["table", "kind"]
 d_sound_again : De K mg "sound_again" s_sound_again ["table", "kind"]
 d_acknowledge : De K mg "acknowledge" s_acknowledge ["table", "kind"]
 d_go_by_itself : De K mg "go_by_itself" s_go_by_itself ["table", "kind"]
 d_reset_kind : De K mg "reset_kind" s_reset_kind ["table", "kind"]
 d_lower : De K mg "lower" s_lower ["table", "kind"]
 d_start_condition : De K mg "start_condition" s_start_condition ["table", "kind"]
 d_end_condition : De K mg "end_condition" s_end_condition ["table", "kind"]
 d_sound_level : De K mg "sound_level" s_sound_level ["table"]
 d_within : De K mg "within" s_within ["number", "least", "greatest"]
 d_has_kind : De K mg "has_kind" s_has_kind ["table", "k"]
 d_raised_before : De K mg "raised_before" s_raised_before ["table", "k"]
 d_reset_refusal : De K mg "reset_refusal" s_reset_refusal ["table", "kind"]
 d_next_to_reset : De K mg "next_to_reset" s_next_to_reset ["table"]
 d_reset_order : De K mg "reset_order" s_reset_order ["table"]
 d_least_free : De K mg "least_free" s_least_free ["waits_for"]
 d_counted : De K mg "counted" s_counted ["numbers"]
 d_tell_sound : De K mg "tell_sound" s_tell_sound ["table", "numbers"]
 d_tell_stops : De K mg "tell_stops" s_tell_stops ["table", "numbers"]
 d_tell_shown : De K mg "tell_shown" s_tell_shown ["table", "numbers"]
 d_urgency : De K mg "urgency" s_urgency ["kind"]
 d_tell_kind : De K mg "tell_kind" s_tell_kind ["table", "numbers"]
 d_tell_tally : De K mg "tell_tally" s_tell_tally ["table", "numbers"]
 d_tell_first : De K mg "tell_first" s_tell_first ["table", "numbers"]
 d_tell_before : De K mg "tell_before" s_tell_before ["table", "numbers"]
 d_tell_behind : De K mg "tell_behind" s_tell_behind ["table", "numbers"]
 d_tell_order : De K mg "tell_order" s_tell_order ["table", "numbers"]
 d_tell_why : De K mg "tell_why" s_tell_why ["table", "numbers"]
 d_tell_log : De K mg "tell_log" s_tell_log ["table", "numbers"]
 d_tell_base : De K mg "tell_base" s_tell_base ["table", "numbers"]
 d_tell_time : De K mg "tell_time" s_tell_time ["table", "numbers"]
 d_tell : De K mg "tell" s_tell ["table", "place", "numbers"]
 d_pass_seconds : De K mg "pass_seconds" s_pass_seconds ["table", "n"]
 d_seconds_to_deed : De K mg "seconds_to_deed" s_seconds_to_deed ["kind", "clock"]
 d_waiting_limit : De K mg "waiting_limit" s_waiting_limit ["kind"]
 d_counting_start : De K mg "counting_start" s_counting_start ["kind", "clock"]
 d_count_seconds : De K mg "count_seconds" s_count_seconds ["kind", "clock", "step"]
 d_do_deed : De K mg "do_deed" s_do_deed ["table", "kind"]
 d_writing_refusal : De K mg "writing_refusal" s_writing_refusal ["table", "in_range"]
 d_define : De K mg "define" s_define ["table", "numbers"]
 d_link : De K mg "link" s_link ["table", "numbers"]
 d_unlink : De K mg "unlink" s_unlink ["table", "numbers"]
 d_on : De K mg "on" s_on ["table", "numbers"]
 d_off : De K mg "off" s_off ["table", "numbers"]
 d_sense : De K mg "sense" s_sense ["table", "numbers"]
 d_tick : De K mg "tick" s_tick ["table", "numbers"]
 d_ack : De K mg "ack" s_ack ["table", "numbers"]
 d_ack_to : De K mg "ack_to" s_ack_to ["table", "numbers"]
 d_silence : De K mg "silence" s_silence ["table", "numbers"]
 d_reset : De K mg "reset" s_reset ["table", "numbers"]
 d_reset_all : De K mg "reset_all" s_reset_all ["table", "numbers"]
 d_shelve : De K mg "shelve" s_shelve ["table", "numbers"]
 d_unshelve : De K mg "unshelve" s_unshelve ["table", "numbers"]
 d_set_clock : De K mg "set_clock" s_set_clock ["table", "numbers"]
 d_renew : De K mg "renew" s_renew ["table", "numbers"]
 d_change : De K mg "change" s_change ["table", "place", "numbers"]
 d_answer : De K mg "answer" s_answer ["table", "place", "numbers"]
 d_answers : De K mg "answers" s_answers ["calls"]
 tops : Tops mg
 ranges : Ade K mg
 ranks : Ai8 K mg
 callsC : mg "CALLS_changing" = some (.ref aC)
 kdC : KD K aC es
 callsA : mg "CALLS_asking" = some (.ref aA)
 kdA : KD K aA ea
 widths : mg "WIDTHS" = some (.ref aW)
 kdW : KD K aW ew
 wd : Agf ew
 at_0 : Eh es 0 = mg "define"
 at_1 : Eh es 1 = mg "link"
 at_2 : Eh es 2 = mg "unlink"
 at_3 : Eh es 3 = mg "on"
 at_4 : Eh es 4 = mg "off"
 at_5 : Eh es 5 = mg "sense"
 at_6 : Eh es 6 = mg "tick"
 at_7 : Eh es 7 = mg "ack"
 at_8 : Eh es 8 = mg "ack_to"
 at_9 : Eh es 9 = mg "silence"
 at_10 : Eh es 10 = mg "reset"
 at_11 : Eh es 11 = mg "reset_all"
 at_12 : Eh es 12 = mg "shelve"
 at_13 : Eh es 13 = mg "unshelve"
 at_14 : Eh es 14 = mg "set_clock"
 at_15 : Eh es 15 = mg "renew"
 at_16 : Eh ea 16 = mg "tell_sound"
 at_17 : Eh ea 17 = mg "tell_stops"
 at_18 : Eh ea 18 = mg "tell_shown"
 at_19 : Eh ea 19 = mg "tell_kind"
 at_20 : Eh ea 20 = mg "tell_tally"
 at_21 : Eh ea 21 = mg "tell_first"
 at_22 : Eh ea 22 = mg "tell_before"
 at_23 : Eh ea 23 = mg "tell_behind"
 at_24 : Eh ea 24 = mg "tell_order"
 at_25 : Eh ea 25 = mg "tell_why"
 at_26 : Eh ea 26 = mg "tell_log"
 at_27 : Eh ea 27 = mg "tell_base"
 at_28 : Eh ea 28 = mg "tell_time"
section
variable {P : Program} {w : World} {K : Ad} {mg : Str → Option Value} {base : Heap} {c : Cs} {aC aA aW : Addr} {es ea ew : List DictEntry}
theorem Fe {x : Str} {k : Nat} {f : List Int → Option Co} {p : Int} {args : List Int} {call : Co} (F : Fn P w K mg base x k ["table", "numbers"] (Dt c f)) (hk : k ≤ 9) (hd : f args = some call) (he : Eh (if p < 16 then es else ea) p = mg x) :
  ∃ f fd mk, Hu P w K mg base CX0 9 f fd ["table", "numbers"] (Dt c mk) ∧ mk args = some call ∧ Dx K (.ref f) = true ∧ Gw K fd ["table", "numbers"] [] ∧ Eh (if p < 16 then es else ea) p = some (.ref f) := by
 obtain ⟨f, fd, F, hm, kp, hb⟩ := F;exact ⟨f, fd, _, F.mono hk, hd, kp, hb, he.trans hm⟩
theorem Text.all {f : Addr} {fd : FuncData} (T : Text K mg c aC aA aW es ea ew) (F : Fun K "answers" "answers" s_answers f fd) : Hu P w K mg base CX0 12 f fd ["calls"] (spAnswers K) := by
 have f_within := Abd (P := P) (w := w) (mg := mg) (base := base) T.d_within;have i_Kind := Ahf (P := P) (w := w) (mg := mg) (base := base) T.i_Kind T.c_K;have f_define := Abg (P := P) (w := w) (mg := mg) (base := base) (c := c) T.d_define T.c_T T.tops T.ranges f_within i_Kind;have f_has_kind := Xh (P := P) (w := w) (mg := mg) (base := base) (c := c) T.d_has_kind T.c_T T.tops f_within;have m_all_before := Sd (P := P) (w := w) (mg := mg) (base := base) (c := c) T.m_Links_all_before T.c_L T.tops;have m_put := Aj9 (P := P) (w := w) (mg := mg) (base := base) (c := c) T.m_Links_put T.c_L T.tops;have f_link := Ahe (P := P) (w := w) (mg := mg) (base := base) (c := c) T.d_link T.c_T T.c_L T.tops f_has_kind m_all_before m_put;have m_take_away := Uo (P := P) (w := w) (mg := mg) (base := base) (c := c) T.m_Links_take_away T.c_L T.tops;have f_unlink := Abe (P := P) (w := w) (mg := mg) (base := base) (c := c) T.d_unlink T.c_T T.c_L T.tops f_has_kind m_take_away;have m_at_end := Abi (P := P) (w := w) (mg := mg) (base := base) (c := c) T.m_Paper_at_end T.c_P T.tops;have f_writing_refusal := K3 (P := P) (w := w) (mg := mg) (base := base) (c := c) T.d_writing_refusal T.c_T T.c_P T.tops m_at_end;have f_is_shelved := Sa (P := P) (w := w) (mg := mg) (base := base) (c := c) T.d_is_shelved T.c_T T.c_K;have i_Event := Aem (P := P) (w := w) (mg := mg) (base := base) T.i_Event T.c_E;have i_Standing := Xi (P := P) (w := w) (mg := mg) (base := base) T.i_Standing T.c_S;have m_move_into_base := Ahd (P := P) (w := w) (mg := mg) (base := base) (c := c) T.m_Paper_move_into_base T.c_P T.c_E T.c_S T.tops i_Standing;have m_take_number := Px (P := P) (w := w) (mg := mg) (base := base) (c := c) T.m_Paper_take_number T.c_P;have m_write := Aee (P := P) (w := w) (mg := mg) (base := base) (c := c) T.m_Paper_write T.c_P T.c_E T.tops i_Event m_move_into_base m_take_number;have f_write_event := Pt (P := P) (w := w) (mg := mg) (base := base) (c := c) T.d_write_event T.c_T T.c_K T.c_P T.tops m_write;have f_raise_kind := R8 (P := P) (w := w) (mg := mg) (base := base) (c := c) T.d_raise_kind T.c_T T.c_K T.tops f_write_event;have f_sound_again := Pz (P := P) (w := w) (mg := mg) (base := base) (c := c) T.d_sound_again T.c_K T.tops f_write_event;have f_start_condition := K4 (P := P) (w := w) (mg := mg) (base := base) (c := c) T.d_start_condition T.c_K T.tops f_is_shelved f_raise_kind f_sound_again;have f_on := Ako (P := P) (w := w) (mg := mg) (base := base) (c := c) T.d_on T.c_T T.tops f_writing_refusal f_has_kind f_start_condition;have f_raised_kinds := Ox (P := P) (w := w) (mg := mg) (base := base) (c := c) T.d_raised_kinds T.c_T T.c_K;have f_lower := Aei (P := P) (w := w) (mg := mg) (base := base) (c := c) T.d_lower T.c_T T.c_K T.tops f_raised_kinds;have f_go_by_itself := Oz (P := P) (w := w) (mg := mg) (base := base) (c := c) T.d_go_by_itself T.tops f_write_event f_lower;have f_end_condition := Nd (P := P) (w := w) (mg := mg) (base := base) (c := c) T.d_end_condition T.c_K T.tops f_go_by_itself;have f_off := Aja (P := P) (w := w) (mg := mg) (base := base) (c := c) T.d_off T.c_T T.tops f_writing_refusal f_has_kind f_end_condition;have f_sense := Aef (P := P) (w := w) (mg := mg) (base := base) (c := c) T.d_sense T.c_T T.c_K T.c_P T.tops f_writing_refusal f_start_condition f_end_condition;have f_waiting_limit := M9 (P := P) (w := w) (mg := mg) (base := base) (c := c) T.d_waiting_limit T.c_K T.tops;have f_counting_start := Ls (P := P) (w := w) (mg := mg) (base := base) (c := c) T.d_counting_start T.c_K T.tops;have f_seconds_to_deed := K5 (P := P) (w := w) (mg := mg) (base := base) (c := c) T.d_seconds_to_deed T.c_K T.tops f_waiting_limit f_counting_start;have f_count_seconds := Nf (P := P) (w := w) (mg := mg) (base := base) (c := c) T.d_count_seconds T.c_K T.tops f_waiting_limit f_counting_start;have f_grow_rank := Ut (P := P) (w := w) (mg := mg) (base := base) (c := c) T.d_grow_rank T.c_K T.tops f_write_event;have f_do_deed := Zi (P := P) (w := w) (mg := mg) (base := base) (c := c) T.d_do_deed T.c_K f_raise_kind f_sound_again f_grow_rank;have f_pass_seconds := Oy (P := P) (w := w) (mg := mg) (base := base) (c := c) T.d_pass_seconds T.c_T T.c_K T.tops f_seconds_to_deed f_count_seconds f_do_deed;have f_tick := Ahb (P := P) (w := w) (mg := mg) (base := base) (c := c) T.d_tick T.c_T T.c_P T.tops f_writing_refusal f_within f_pass_seconds;have f_acknowledge := P1 (P := P) (w := w) (mg := mg) (base := base) (c := c) T.d_acknowledge T.c_K T.tops f_write_event;have f_ack := Ajb (P := P) (w := w) (mg := mg) (base := base) (c := c) T.d_ack T.c_T T.c_K T.tops f_writing_refusal f_has_kind f_acknowledge;have f_ack_to := Abk (P := P) (w := w) (mg := mg) (base := base) (c := c) T.d_ack_to T.c_T T.c_K T.tops f_writing_refusal f_within f_acknowledge f_raised_kinds;have f_is_silent := Us (P := P) (w := w) (mg := mg) (base := base) (c := c) T.d_is_silent T.c_T;have f_sound_level := Py (P := P) (w := w) (mg := mg) (base := base) (c := c) T.d_sound_level T.c_T T.c_K T.tops f_is_silent f_raised_kinds;have f_silence := Zh (P := P) (w := w) (mg := mg) (base := base) (c := c) T.d_silence T.c_T T.tops f_within f_sound_level;have f_raised_before := Nb (P := P) (w := w) (mg := mg) (base := base) (c := c) T.d_raised_before T.c_T T.c_K T.c_L T.tops m_all_before;have f_reset_refusal := Na (P := P) (w := w) (mg := mg) (base := base) (c := c) T.d_reset_refusal T.c_K T.tops f_raised_before;have f_reset_kind := R7 (P := P) (w := w) (mg := mg) (base := base) (c := c) T.d_reset_kind T.c_K T.tops f_write_event f_lower;have f_reset := Aeg (P := P) (w := w) (mg := mg) (base := base) (c := c) T.d_reset T.c_T T.tops f_writing_refusal f_has_kind f_reset_refusal f_reset_kind;have f_next_to_reset := Nc (P := P) (w := w) (mg := mg) (base := base) (c := c) T.d_next_to_reset T.c_T T.tops f_reset_refusal;have f_reset_all := Ur (P := P) (w := w) (mg := mg) (base := base) (c := c) T.d_reset_all T.c_T T.c_K T.tops m_at_end f_next_to_reset f_reset_kind;have f_shelve := Abf (P := P) (w := w) (mg := mg) (base := base) (c := c) T.d_shelve T.c_T T.c_K T.tops f_has_kind f_within;have f_unshelve := Xe (P := P) (w := w) (mg := mg) (base := base) (c := c) T.d_unshelve T.c_T T.c_K T.tops f_writing_refusal f_has_kind f_is_shelved f_raise_kind;have f_set_clock := Uq (P := P) (w := w) (mg := mg) (base := base) (c := c) T.d_set_clock T.c_T T.c_K T.tops f_within;have f_raising_number := Lq (P := P) (w := w) (mg := mg) (base := base) (c := c) T.d_raising_number T.c_K;have f_raised_in_turn := Lr (P := P) (w := w) (mg := mg) (base := base) (c := c) T.d_raised_in_turn T.tops f_raised_kinds f_raising_number;have i_Paper := Aek (P := P) (w := w) (mg := mg) (base := base) T.i_Paper T.c_P;have m_carry_over := Sb (P := P) (w := w) (mg := mg) (base := base) (c := c) T.m_Paper_carry_over T.c_P m_take_number i_Standing;have f_renew := Aeh (P := P) (w := w) (mg := mg) (base := base) (c := c) T.d_renew T.c_T T.c_K T.tops f_raised_in_turn i_Paper m_carry_over;have f_tell_sound := R3 (P := P) (w := w) (mg := mg) (base := base) (c := c) T.d_tell_sound f_sound_level;have f_tell_stops := R0 (P := P) (w := w) (mg := mg) (base := base) (c := c) T.d_tell_stops T.c_K f_raised_kinds;have f_urgency := Zg (P := P) (w := w) (mg := mg) (base := base) (c := c) T.d_urgency T.c_K T.tops;have f_tell_shown := R4 (P := P) (w := w) (mg := mg) (base := base) (c := c) T.d_tell_shown T.c_K T.tops f_raised_in_turn f_urgency;have f_tell_kind := Ul (P := P) (w := w) (mg := mg) (base := base) (c := c) T.d_tell_kind T.c_T T.c_K T.tops f_has_kind;have f_tell_tally := Rz (P := P) (w := w) (mg := mg) (base := base) (c := c) T.d_tell_tally T.c_K T.tops T.ranks f_raised_kinds;have f_tell_first := R6 (P := P) (w := w) (mg := mg) (base := base) (c := c) T.d_tell_first T.c_T;have f_tell_before := Pw (P := P) (w := w) (mg := mg) (base := base) (c := c) T.d_tell_before T.c_T T.tops f_has_kind m_all_before;have f_counted := Zj (P := P) (w := w) (mg := mg) (base := base) T.d_counted T.tops;have f_tell_behind := Pu (P := P) (w := w) (mg := mg) (base := base) (c := c) T.d_tell_behind T.c_T T.tops f_has_kind m_all_before f_counted;have f_least_free := R9 (P := P) (w := w) (mg := mg) (base := base) T.d_least_free T.tops;have f_reset_order := P0 (P := P) (w := w) (mg := mg) (base := base) (c := c) T.d_reset_order T.c_K T.tops f_raised_kinds f_raised_before f_least_free;have f_tell_order := R5 (P := P) (w := w) (mg := mg) (base := base) (c := c) T.d_tell_order f_reset_order f_counted;have f_tell_why := Xf (P := P) (w := w) (mg := mg) (base := base) (c := c) T.d_tell_why T.c_T T.c_K T.tops f_has_kind f_raised_before f_counted;have f_tell_log := Xg (P := P) (w := w) (mg := mg) (base := base) (c := c) T.d_tell_log T.c_T T.c_P T.c_E T.tops f_within;have f_tell_base := Um (P := P) (w := w) (mg := mg) (base := base) (c := c) T.d_tell_base T.c_T T.c_P T.c_S T.tops;have f_tell_time := Uk (P := P) (w := w) (mg := mg) (base := base) (c := c) T.d_tell_time T.c_T T.c_P f_is_silent;have i_Links := Ael (P := P) (w := w) (mg := mg) (base := base) T.i_Links T.c_L;have i_Table := Aej (P := P) (w := w) (mg := mg) (base := base) (c := c) T.i_Table T.c_T i_Links i_Paper;have h29 : Adf P w K mg base c es ea := fun p args call hw hd => by
  have w := (shape_width hw).2;simp only at w
  rcases w with ⟨rfl, e⟩ | ⟨w, e⟩ | ⟨w, e⟩ | ⟨w, e⟩
  ·match args, e with
   | [_, _, _, _, _, _], _ =>
    exact Fe f_define (by decide) hd T.at_0
  ·match args, e with
   | [_, _], _ =>
    rcases w with rfl | rfl | rfl | rfl
    ·exact Fe f_link (by decide) hd T.at_1
    ·exact Fe f_unlink (by decide) hd T.at_2
    ·exact Fe f_shelve (by decide) hd T.at_12
    ·exact Fe f_tell_before (by decide) hd T.at_22
  ·match args, e with
   | [_], _ =>
    rcases w with rfl | rfl | rfl | rfl | rfl | rfl | rfl | rfl | rfl | rfl | rfl | rfl | rfl | rfl
    ·exact Fe f_on (by decide) hd T.at_3
    ·exact Fe f_off (by decide) hd T.at_4
    ·exact Fe f_sense (by decide) hd T.at_5
    ·exact Fe f_tick (by decide) hd T.at_6
    ·exact Fe f_ack (by decide) hd T.at_7
    ·exact Fe f_ack_to (by decide) hd T.at_8
    ·exact Fe f_silence (by decide) hd T.at_9
    ·exact Fe f_reset (by decide) hd T.at_10
    ·exact Fe f_unshelve (by decide) hd T.at_13
    ·exact Fe f_set_clock (by decide) hd T.at_14
    ·exact Fe f_tell_kind (by decide) hd T.at_19
    ·exact Fe f_tell_behind (by decide) hd T.at_23
    ·exact Fe f_tell_why (by decide) hd T.at_25
    ·exact Fe f_tell_log (by decide) hd T.at_26
  ·match args, e with
   | [], _ =>
    rcases w with rfl | rfl | rfl | rfl | rfl | rfl | rfl | rfl | rfl | rfl
    ·exact Fe f_reset_all (by decide) hd T.at_11
    ·exact Fe f_renew (by decide) hd T.at_15
    ·exact Fe f_tell_sound (by decide) hd T.at_16
    ·exact Fe f_tell_stops (by decide) hd T.at_17
    ·exact Fe f_tell_shown (by decide) hd T.at_18
    ·exact Fe f_tell_tally (by decide) hd T.at_20
    ·exact Fe f_tell_first (by decide) hd T.at_21
    ·exact Fe f_tell_order (by decide) hd T.at_24
    ·exact Fe f_tell_base (by decide) hd T.at_27
    ·exact Fe f_tell_time (by decide) hd T.at_28
 have f_change := Abh T.d_change T.callsC T.kdC h29;have f_tell := Ahc T.d_tell T.callsA T.kdA h29;have f_answer := Abj T.d_answer T.tops f_change f_tell;exact Zk F T.tops T.widths T.kdW T.wd i_Table f_answer
theorem Text.fin {fa : Addr} (T : Text K mg c aC aA aW es ea ew) (hfa : mg "answers" = some (.ref fa)) :
  ∃ fd : FuncData, (∀ (s : Shared) (us : List Value), us.length = (["calls"] : List Str).length → BindsTo s fd ⟨us, []⟩ ((["calls"] : List Str).zip us)) ∧ ∀ base : Heap, K.In base → base.Ns mainGlobals mg → Hu P w K mg base CX0 12 fa fd ["calls"] (spAnswers K) := by
 obtain ⟨f, fd, F, hm, hb⟩ := T.d_answers;have e := hfa.symm.trans hm
 cases e
 obtain ⟨oc, od, kV, doc, pm, an, cdv, ct, osl, rfl, lk, hcd⟩ := id F.ex;exact ⟨_, fun s us hu => .of_eq (b_answers _ _ _ _ _ _ us hu), fun base _ _ => T.all F⟩
end
end AT
open PySem PySem.W PyProof.Rows
def PySem.W.Fast.tw1334875835489655654:=0
def PySem.W.Fast.tw7439349819945016465:=0
def PySem.W.Fast.tw667649695116794588:=0
def PySem.W.Fast.tw776583130725607302:=0
def PySem.W.Fast.tw12123975782562759332:=0
def PySem.W.Fast.tw17518066126962123083:=0
def PySem.W.Fast.tw9269512408834046878:=0
def PySem.W.Fast.tw10675238718791771854:=0
def PySem.W.Fast.tw1516839724782373771:=0
def PySem.W.Fast.tw1335761934034242547:=0
def PySem.W.Fast.tw11668008384252603941:=0
def PySem.W.Fast.tw9495107133509992450:=0
def PySem.W.Fast.tw6080383295470169244:=0
def PySem.W.Fast.tw14884652988642932714:=0
def PySem.W.Fast.tw29445839721260003:=0
def PySem.W.Fast.tw8575925557951097171:=0
def PySem.W.Fast.tw3580585290583026986:=0
def PySem.W.Fast.tw11716508514547794924:=0
def PySem.W.Fast.tw4987642679882628559:=0
def PySem.W.Fast.tw17830359266341607065:=0
def PySem.W.Fast.tw14495862793361145509:=0
def PySem.W.Fast.tw3313382521285073338:=0
def PySem.W.Fast.tw11750040584644669927:=0
def PySem.W.Fast.tw15526182386889751783:=0
def PySem.W.Fast.tw3094557342186410396:=0
def PySem.W.Fast.tw8332762748947550277:=0
def PySem.W.Fast.tw4360749916782232624:=0
def PySem.W.Fast.tw12637041806522921707:=0
def PySem.W.Fast.tw2400188586734051822:=0
def PySem.W.Fast.tw7129115324115283127:=0
def PySem.W.Fast.tw4143779072537703881:=0
def PySem.W.Fast.tw4479539041316445802:=0
def PySem.W.Fast.tw12385970534903489482:=0
def PySem.W.Fast.tw18195427194727034306:=0
def PySem.W.Fast.tw16920655143323286418:=0
def PySem.W.Fast.tw7195941475494271958:=0
def PySem.W.Fast.tw2099496193185826249:=0
def PySem.W.Fast.tw15901417780778238734:=0
def PySem.W.Fast.tw8068381047783237960:=0
def PySem.W.Fast.tw10169993496243888770:=0
def PySem.W.Fast.tw6862011220515657590:=0
def PySem.W.Fast.tw16516380954782999903:=0
def PySem.W.Fast.tw17242510577536885090:=0
def PySem.W.Fast.tw17622184727767250121:=0
def PySem.W.Fast.tw310455574812201472:=0
def PySem.W.Fast.tw14221903530319882442:=0
def PySem.W.Fast.tw8165799986150307427:=0
def PySem.W.Fast.tw16100913155231805195:=0
def PySem.W.Fast.tw10765462879967671087:=0
def PySem.W.Fast.tw7797113149121781517:=0
def PySem.W.Fast.tw8259622670400610657:=0
def PySem.W.Fast.tw517637512053058753:=0
def PySem.W.Fast.tw2955974628710001625:=0
def PySem.W.Fast.tw12036507423035023175:=0
def PySem.W.Fast.tw5571128870047962727:=0
def PySem.W.Fast.tw11993576738798812849:=0
def PySem.W.Fast.tw11109933484823129829:=0
def PySem.W.Fast.tw10914830814467582711:=0
def PySem.W.Fast.tw18286560158678403894:=0
def PySem.W.Fast.tw7120316877196413398:=0
def PySem.W.Fast.tw9532788267818030489:=0
def PySem.W.Fast.tw7221792610576730780:=0
def PySem.W.Fast.tw17184408968125316197:=0
def PySem.W.Fast.tw2628486012366800301:=0
def PySem.W.Fast.tw14096323991235235686:=0
def PySem.W.Fast.tw10257310134486840743:=0
def PySem.W.Fast.tw12548700829082351453:=0
def PySem.W.Fast.tw14279452886400556822:=0
def PySem.W.Fast.tw8849577669521643482:=0
def PySem.W.Fast.tw13298312766490925974:=0
def PySem.W.Fast.tw289885561693103026:=0
def PySem.W.Fast.tw130876545873552696:=0
def PySem.W.Fast.tw10139263071503956292:=0
def PySem.W.Fast.tw1632577500116252457:=0
def PySem.W.Fast.tw16847675285795594427:=0
def PySem.W.Fast.tw15317903963344049378:=0
def PySem.W.Fast.tw279921554645396750:=0
def PySem.W.Fast.tw6922446203891739047:=0
def PySem.W.Fast.tw15793102988905549724:=0
def PySem.W.Fast.tw5202268769290638568:=0
def PySem.W.Fast.tw4441969603581748924:=0
def PySem.W.Fast.tw9664726394340578689:=0
def PySem.W.Fast.tw1704262154182269776:=0
def PySem.W.Fast.tw12975630055860426520:=0
def PySem.W.Fast.tw16587488683353662987:=0
def PySem.W.Fast.tw12384947467714699508:=0
def PySem.W.Fast.tw1451453507740866709:=0
def PySem.W.Fast.tw9804916184763728118:=0
def PySem.W.Fast.tw13304190862394019038:=0
def PySem.W.Fast.tw11385385069548200885:=0
def PySem.W.Fast.tw11181212509469400165:=0
def PySem.W.Fast.tw10755292226877327762:=0
def PySem.W.Fast.tw10122025316941551810:=0
def PySem.W.Fast.tw686099962085825086:=0
def PySem.W.Fast.tw4320660910280436913:=0
def PySem.W.Fast.tw2798398079479191050:=0
set_option maxHeartbeats 0 in
theorem PySem.Challenge.cw_alarmtable_s01_answers_holds : PySem.Challenge.rw_alarmtable_s01_answers.Holds := by
 w_on; k_headS; (case hw => exact ⟨[.list [.int 28]], by decide +kernel, by decide +kernel⟩)
 k_fillS
 refine L2.walk_specK (r := PySem.Challenge.rw_alarmtable_s01_answers) (k := 12) (CX := L2.CX0) (ps := ["calls"]) (sp := AT.spAnswers) (by decide +kernel) rfl rfl ⟨rfl, by decide, by decide⟩ (fun w h Y => PySem.W.kIn_of Y) ?F ?S (fun _ _ _ _ z => z)
 case S =>
  intro K H xs a hO hwi hask hx
  cases hx with
  | cons h1 h2 =>
   cases h2
   cases h1 with
   | lst hs ha =>
    have e := L2.ints_dw a.1 _ ha;subst e;obtain ⟨hh, e1, hw, hl, e2⟩ := AT.asked_hands (l := a.1) hask;refine ⟨_, hh, rfl, e1 ▸ hs, hw, hl, fun H' p hp => ?_⟩;have e3 : Codec.app PySem.Challenge.rw_alarmtable_s01_answers.args PySem.Challenge.rw_alarmtable_s01_answers.f a = AT.dueH Bx hh := e2;rw [e3];exact .lst (L2.SqL.of hp) (L2.dw_ints _)
 case F =>
  intro w mg fa h Y KX G hmg;refine' AT.w_cls (x := "Event") (ks := ["number", "clock", "kind", "what", "rank"]) KX G (by decide +kernel) (by decide +kernel) ?a1 ?pg1 ?hd1 ?po1 ?sa1 ?nn1 fun Event_m Event_c => ?m1
  (case a1 => k_is); (case pg1 => k_is); (case hd1 => k_is); (case po1 => k_is); (case sa1 => k_is)
  (case nn1 => exact ⟨by k_is, by k_is, by k_is, by k_is, by k_is, trivial⟩)
  refine' AT.w_cls (x := "Standing") (ks := ["raised_by", "rank", "acknowledged"]) KX G (by decide +kernel) (by decide +kernel) ?a2 ?pg2 ?hd2 ?po2 ?sa2 ?nn2 fun Standing_m Standing_c => ?m2
  (case a2 => k_is); (case pg2 => k_is); (case hd2 => k_is); (case po2 => k_is); (case sa2 => k_is)
  (case nn2 => exact ⟨by k_is, by k_is, by k_is, trivial⟩)
  refine' AT.w_cls (x := "Paper") (ks := ["next_number", "events", "base"]) KX G (by decide +kernel) (by decide +kernel) ?a3 ?pg3 ?hd3 ?po3 ?sa3 ?nn3 fun Paper_m Paper_c => ?m3
  (case a3 => k_is); (case pg3 => k_is); (case hd3 => k_is); (case po3 => k_is); (case sa3 => k_is)
  (case nn3 => exact ⟨by k_is, by k_is, by k_is, trivial⟩)
  refine' AT.w_cls (x := "Links") (ks := ["direct"]) KX G (by decide +kernel) (by decide +kernel) ?a4 ?pg4 ?hd4 ?po4 ?sa4 ?nn4 fun Links_m Links_c => ?m4
  (case a4 => k_is); (case pg4 => k_is); (case hd4 => k_is); (case po4 => k_is); (case sa4 => k_is)
  (case nn4 => exact ⟨by k_is, trivial⟩)
  refine' AT.w_cls (x := "Kind") (ks := ["number", "rank", "latching", "delay", "escalate", "again", "stops", "holds", "held", "shelved_to", "raised", "rank_now", "acknowledged", "waited", "raised_by"]) KX G (by decide +kernel) (by decide +kernel) ?a5 ?pg5 ?hd5 ?po5 ?sa5 ?nn5 fun Kind_m Kind_c => ?m5
  (case a5 => k_is); (case pg5 => k_is); (case hd5 => k_is); (case po5 => k_is); (case sa5 => k_is)
  (case nn5 => exact ⟨by k_is, by k_is, by k_is, by k_is, by k_is, by k_is, by k_is, by k_is, by k_is, by k_is, by k_is, by k_is, by k_is, by k_is, by k_is, trivial⟩)
  refine' AT.w_cls (x := "Table") (ks := ["kinds", "links", "clock", "paper", "silent_to", "hidden_rank", "first"]) KX G (by decide +kernel) (by decide +kernel) ?a6 ?pg6 ?hd6 ?po6 ?sa6 ?nn6 fun Table_m Table_c => ?m6
  (case a6 => k_is); (case pg6 => k_is); (case hd6 => k_is); (case po6 => k_is); (case sa6 => k_is)
  (case nn6 => exact ⟨by k_is, by k_is, by k_is, by k_is, by k_is, by k_is, by k_is, trivial⟩)
  refine' AT.w_di (st := AT.s_Event_init) KX Event_m AT.b_Event_init ?mk7 ?i7 ?f7 ?k7 ?l7 ?c7 ?kf7 fun Event_i => ?m7
  (case mk7 => k_is); (case i7 => k_is); (case f7 => k_is); (case k7 => k_is); (case l7 => k_is); (case c7 => k_is); (case kf7 => k_is)
  refine' AT.w_di (st := AT.s_Standing_init) KX Standing_m AT.b_Standing_init ?mk8 ?i8 ?f8 ?k8 ?l8 ?c8 ?kf8 fun Standing_i => ?m8
  (case mk8 => k_is); (case i8 => k_is); (case f8 => k_is); (case k8 => k_is); (case l8 => k_is); (case c8 => k_is); (case kf8 => k_is)
  refine' AT.w_di (st := AT.s_Paper_init) KX Paper_m AT.b_Paper_init ?mk9 ?i9 ?f9 ?k9 ?l9 ?c9 ?kf9 fun Paper_i => ?m9
  (case mk9 => k_is); (case i9 => k_is); (case f9 => k_is); (case k9 => k_is); (case l9 => k_is); (case c9 => k_is); (case kf9 => k_is)
  refine' AT.w_di (st := AT.s_Links_init) KX Links_m AT.b_Links_init ?mk10 ?i10 ?f10 ?k10 ?l10 ?c10 ?kf10 fun Links_i => ?m10
  (case mk10 => k_is); (case i10 => k_is); (case f10 => k_is); (case k10 => k_is); (case l10 => k_is); (case c10 => k_is); (case kf10 => k_is)
  refine' AT.w_di (st := AT.s_Kind_init) KX Kind_m AT.b_Kind_init ?mk11 ?i11 ?f11 ?k11 ?l11 ?c11 ?kf11 fun Kind_i => ?m11
  (case mk11 => k_is); (case i11 => k_is); (case f11 => k_is); (case k11 => k_is); (case l11 => k_is); (case c11 => k_is); (case kf11 => k_is)
  refine' AT.w_di (st := AT.s_Table_init) KX Table_m AT.b_Table_init ?mk12 ?i12 ?f12 ?k12 ?l12 ?c12 ?kf12 fun Table_i => ?m12
  (case mk12 => k_is); (case i12 => k_is); (case f12 => k_is); (case k12 => k_is); (case l12 => k_is); (case c12 => k_is); (case kf12 => k_is)
  refine' AT.w_dm (st := AT.s_Paper_at_end) Paper_c.cls AT.b_Paper_at_end ?i13 ?f13 ?l13 ?c13 ?kf13 fun m_Paper_at_end => ?m13
  (case i13 => k_is); (case f13 => k_is); (case l13 => k_is); (case c13 => k_is); (case kf13 => k_is)
  refine' AT.w_dm (st := AT.s_Paper_take_number) Paper_c.cls AT.b_Paper_take_number ?i14 ?f14 ?l14 ?c14 ?kf14 fun m_Paper_take_number => ?m14
  (case i14 => k_is); (case f14 => k_is); (case l14 => k_is); (case c14 => k_is); (case kf14 => k_is)
  refine' AT.w_dm (st := AT.s_Paper_carry_over) Paper_c.cls AT.b_Paper_carry_over ?i15 ?f15 ?l15 ?c15 ?kf15 fun m_Paper_carry_over => ?m15
  (case i15 => k_is); (case f15 => k_is); (case l15 => k_is); (case c15 => k_is); (case kf15 => k_is)
  refine' AT.w_dm (st := AT.s_Paper_write) Paper_c.cls AT.b_Paper_write ?i16 ?f16 ?l16 ?c16 ?kf16 fun m_Paper_write => ?m16
  (case i16 => k_is); (case f16 => k_is); (case l16 => k_is); (case c16 => k_is); (case kf16 => k_is)
  refine' AT.w_dm (st := AT.s_Paper_move_into_base) Paper_c.cls AT.b_Paper_move_into_base ?i17 ?f17 ?l17 ?c17 ?kf17 fun m_Paper_move_into_base => ?m17
  (case i17 => k_is); (case f17 => k_is); (case l17 => k_is); (case c17 => k_is); (case kf17 => k_is)
  refine' AT.w_dm (st := AT.s_Links_put) Links_c.cls AT.b_Links_put ?i18 ?f18 ?l18 ?c18 ?kf18 fun m_Links_put => ?m18
  (case i18 => k_is); (case f18 => k_is); (case l18 => k_is); (case c18 => k_is); (case kf18 => k_is)
  refine' AT.w_dm (st := AT.s_Links_take_away) Links_c.cls AT.b_Links_take_away ?i19 ?f19 ?l19 ?c19 ?kf19 fun m_Links_take_away => ?m19
  (case i19 => k_is); (case f19 => k_is); (case l19 => k_is); (case c19 => k_is); (case kf19 => k_is)
  refine' AT.w_dm (st := AT.s_Links_all_before) Links_c.cls AT.b_Links_all_before ?i20 ?f20 ?l20 ?c20 ?kf20 fun m_Links_all_before => ?m20
  (case i20 => k_is); (case f20 => k_is); (case l20 => k_is); (case c20 => k_is); (case kf20 => k_is)
  refine' AT.w_de (st := AT.s_is_silent) KX G AT.b_is_silent ?a21 ?l21 ?c21 ?kf21 fun g_is_silent d_is_silent => ?m21
  (case a21 => k_is); (case l21 => k_is); (case c21 => k_is); (case kf21 => k_is)
  refine' AT.w_de (st := AT.s_is_shelved) KX G AT.b_is_shelved ?a22 ?l22 ?c22 ?kf22 fun g_is_shelved d_is_shelved => ?m22
  (case a22 => k_is); (case l22 => k_is); (case c22 => k_is); (case kf22 => k_is)
  refine' AT.w_de (st := AT.s_raised_kinds) KX G AT.b_raised_kinds ?a23 ?l23 ?c23 ?kf23 fun g_raised_kinds d_raised_kinds => ?m23
  (case a23 => k_is); (case l23 => k_is); (case c23 => k_is); (case kf23 => k_is)
  refine' AT.w_de (st := AT.s_raising_number) KX G AT.b_raising_number ?a24 ?l24 ?c24 ?kf24 fun g_raising_number d_raising_number => ?m24
  (case a24 => k_is); (case l24 => k_is); (case c24 => k_is); (case kf24 => k_is)
  refine' AT.w_de (st := AT.s_raised_in_turn) KX G AT.b_raised_in_turn ?a25 ?l25 ?c25 ?kf25 fun g_raised_in_turn d_raised_in_turn => ?m25
  (case a25 => k_is); (case l25 => k_is); (case c25 => k_is); (case kf25 => k_is)
  refine' AT.w_de (st := AT.s_write_event) KX G AT.b_write_event ?a26 ?l26 ?c26 ?kf26 fun g_write_event d_write_event => ?m26
  (case a26 => k_is); (case l26 => k_is); (case c26 => k_is); (case kf26 => k_is)
  refine' AT.w_de (st := AT.s_raise_kind) KX G AT.b_raise_kind ?a27 ?l27 ?c27 ?kf27 fun g_raise_kind d_raise_kind => ?m27
  (case a27 => k_is); (case l27 => k_is); (case c27 => k_is); (case kf27 => k_is)
  refine' AT.w_de (st := AT.s_grow_rank) KX G AT.b_grow_rank ?a28 ?l28 ?c28 ?kf28 fun g_grow_rank d_grow_rank => ?m28
  (case a28 => k_is); (case l28 => k_is); (case c28 => k_is); (case kf28 => k_is)
  refine' AT.w_de (st := AT.s_sound_again) KX G AT.b_sound_again ?a29 ?l29 ?c29 ?kf29 fun g_sound_again d_sound_again => ?m29
  (case a29 => k_is); (case l29 => k_is); (case c29 => k_is); (case kf29 => k_is)
  refine' AT.w_de (st := AT.s_acknowledge) KX G AT.b_acknowledge ?a30 ?l30 ?c30 ?kf30 fun g_acknowledge d_acknowledge => ?m30
  (case a30 => k_is); (case l30 => k_is); (case c30 => k_is); (case kf30 => k_is)
  refine' AT.w_de (st := AT.s_go_by_itself) KX G AT.b_go_by_itself ?a31 ?l31 ?c31 ?kf31 fun g_go_by_itself d_go_by_itself => ?m31
  (case a31 => k_is); (case l31 => k_is); (case c31 => k_is); (case kf31 => k_is)
  refine' AT.w_de (st := AT.s_reset_kind) KX G AT.b_reset_kind ?a32 ?l32 ?c32 ?kf32 fun g_reset_kind d_reset_kind => ?m32
  (case a32 => k_is); (case l32 => k_is); (case c32 => k_is); (case kf32 => k_is)
  refine' AT.w_de (st := AT.s_lower) KX G AT.b_lower ?a33 ?l33 ?c33 ?kf33 fun g_lower d_lower => ?m33
  (case a33 => k_is); (case l33 => k_is); (case c33 => k_is); (case kf33 => k_is)
  refine' AT.w_de (st := AT.s_start_condition) KX G AT.b_start_condition ?a34 ?l34 ?c34 ?kf34 fun g_start_condition d_start_condition => ?m34
  (case a34 => k_is); (case l34 => k_is); (case c34 => k_is); (case kf34 => k_is)
  refine' AT.w_de (st := AT.s_end_condition) KX G AT.b_end_condition ?a35 ?l35 ?c35 ?kf35 fun g_end_condition d_end_condition => ?m35
  (case a35 => k_is); (case l35 => k_is); (case c35 => k_is); (case kf35 => k_is)
  refine' AT.w_de (st := AT.s_sound_level) KX G AT.b_sound_level ?a36 ?l36 ?c36 ?kf36 fun g_sound_level d_sound_level => ?m36
  (case a36 => k_is); (case l36 => k_is); (case c36 => k_is); (case kf36 => k_is)
  refine' AT.w_de (st := AT.s_within) KX G AT.b_within ?a37 ?l37 ?c37 ?kf37 fun g_within d_within => ?m37
  (case a37 => k_is); (case l37 => k_is); (case c37 => k_is); (case kf37 => k_is)
  refine' AT.w_de (st := AT.s_has_kind) KX G AT.b_has_kind ?a38 ?l38 ?c38 ?kf38 fun g_has_kind d_has_kind => ?m38
  (case a38 => k_is); (case l38 => k_is); (case c38 => k_is); (case kf38 => k_is)
  refine' AT.w_de (st := AT.s_raised_before) KX G AT.b_raised_before ?a39 ?l39 ?c39 ?kf39 fun g_raised_before d_raised_before => ?m39
  (case a39 => k_is); (case l39 => k_is); (case c39 => k_is); (case kf39 => k_is)
  refine' AT.w_de (st := AT.s_reset_refusal) KX G AT.b_reset_refusal ?a40 ?l40 ?c40 ?kf40 fun g_reset_refusal d_reset_refusal => ?m40
  (case a40 => k_is); (case l40 => k_is); (case c40 => k_is); (case kf40 => k_is)
  refine' AT.w_de (st := AT.s_next_to_reset) KX G AT.b_next_to_reset ?a41 ?l41 ?c41 ?kf41 fun g_next_to_reset d_next_to_reset => ?m41
  (case a41 => k_is); (case l41 => k_is); (case c41 => k_is); (case kf41 => k_is)
  refine' AT.w_de (st := AT.s_reset_order) KX G AT.b_reset_order ?a42 ?l42 ?c42 ?kf42 fun g_reset_order d_reset_order => ?m42
  (case a42 => k_is); (case l42 => k_is); (case c42 => k_is); (case kf42 => k_is)
  refine' AT.w_de (st := AT.s_least_free) KX G AT.b_least_free ?a43 ?l43 ?c43 ?kf43 fun g_least_free d_least_free => ?m43
  (case a43 => k_is); (case l43 => k_is); (case c43 => k_is); (case kf43 => k_is)
  refine' AT.w_de (st := AT.s_counted) KX G AT.b_counted ?a44 ?l44 ?c44 ?kf44 fun g_counted d_counted => ?m44
  (case a44 => k_is); (case l44 => k_is); (case c44 => k_is); (case kf44 => k_is)
  refine' AT.w_de (st := AT.s_tell_sound) KX G AT.b_tell_sound ?a45 ?l45 ?c45 ?kf45 fun g_tell_sound d_tell_sound => ?m45
  (case a45 => k_is); (case l45 => k_is); (case c45 => k_is); (case kf45 => k_is)
  refine' AT.w_de (st := AT.s_tell_stops) KX G AT.b_tell_stops ?a46 ?l46 ?c46 ?kf46 fun g_tell_stops d_tell_stops => ?m46
  (case a46 => k_is); (case l46 => k_is); (case c46 => k_is); (case kf46 => k_is)
  refine' AT.w_de (st := AT.s_tell_shown) KX G AT.b_tell_shown ?a47 ?l47 ?c47 ?kf47 fun g_tell_shown d_tell_shown => ?m47
  (case a47 => k_is); (case l47 => k_is); (case c47 => k_is); (case kf47 => k_is)
  refine' AT.w_de (st := AT.s_urgency) KX G AT.b_urgency ?a48 ?l48 ?c48 ?kf48 fun g_urgency d_urgency => ?m48
  (case a48 => k_is); (case l48 => k_is); (case c48 => k_is); (case kf48 => k_is)
  refine' AT.w_de (st := AT.s_tell_kind) KX G AT.b_tell_kind ?a49 ?l49 ?c49 ?kf49 fun g_tell_kind d_tell_kind => ?m49
  (case a49 => k_is); (case l49 => k_is); (case c49 => k_is); (case kf49 => k_is)
  refine' AT.w_de (st := AT.s_tell_tally) KX G AT.b_tell_tally ?a50 ?l50 ?c50 ?kf50 fun g_tell_tally d_tell_tally => ?m50
  (case a50 => k_is); (case l50 => k_is); (case c50 => k_is); (case kf50 => k_is)
  refine' AT.w_de (st := AT.s_tell_first) KX G AT.b_tell_first ?a51 ?l51 ?c51 ?kf51 fun g_tell_first d_tell_first => ?m51
  (case a51 => k_is); (case l51 => k_is); (case c51 => k_is); (case kf51 => k_is)
  refine' AT.w_de (st := AT.s_tell_before) KX G AT.b_tell_before ?a52 ?l52 ?c52 ?kf52 fun g_tell_before d_tell_before => ?m52
  (case a52 => k_is); (case l52 => k_is); (case c52 => k_is); (case kf52 => k_is)
  refine' AT.w_de (st := AT.s_tell_behind) KX G AT.b_tell_behind ?a53 ?l53 ?c53 ?kf53 fun g_tell_behind d_tell_behind => ?m53
  (case a53 => k_is); (case l53 => k_is); (case c53 => k_is); (case kf53 => k_is)
  refine' AT.w_de (st := AT.s_tell_order) KX G AT.b_tell_order ?a54 ?l54 ?c54 ?kf54 fun g_tell_order d_tell_order => ?m54
  (case a54 => k_is); (case l54 => k_is); (case c54 => k_is); (case kf54 => k_is)
  refine' AT.w_de (st := AT.s_tell_why) KX G AT.b_tell_why ?a55 ?l55 ?c55 ?kf55 fun g_tell_why d_tell_why => ?m55
  (case a55 => k_is); (case l55 => k_is); (case c55 => k_is); (case kf55 => k_is)
  refine' AT.w_de (st := AT.s_tell_log) KX G AT.b_tell_log ?a56 ?l56 ?c56 ?kf56 fun g_tell_log d_tell_log => ?m56
  (case a56 => k_is); (case l56 => k_is); (case c56 => k_is); (case kf56 => k_is)
  refine' AT.w_de (st := AT.s_tell_base) KX G AT.b_tell_base ?a57 ?l57 ?c57 ?kf57 fun g_tell_base d_tell_base => ?m57
  (case a57 => k_is); (case l57 => k_is); (case c57 => k_is); (case kf57 => k_is)
  refine' AT.w_de (st := AT.s_tell_time) KX G AT.b_tell_time ?a58 ?l58 ?c58 ?kf58 fun g_tell_time d_tell_time => ?m58
  (case a58 => k_is); (case l58 => k_is); (case c58 => k_is); (case kf58 => k_is)
  refine' AT.w_de (st := AT.s_tell) KX G AT.b_tell ?a59 ?l59 ?c59 ?kf59 fun g_tell d_tell => ?m59
  (case a59 => k_is); (case l59 => k_is); (case c59 => k_is); (case kf59 => k_is)
  refine' AT.w_de (st := AT.s_pass_seconds) KX G AT.b_pass_seconds ?a60 ?l60 ?c60 ?kf60 fun g_pass_seconds d_pass_seconds => ?m60
  (case a60 => k_is); (case l60 => k_is); (case c60 => k_is); (case kf60 => k_is)
  refine' AT.w_de (st := AT.s_seconds_to_deed) KX G AT.b_seconds_to_deed ?a61 ?l61 ?c61 ?kf61 fun g_seconds_to_deed d_seconds_to_deed => ?m61
  (case a61 => k_is); (case l61 => k_is); (case c61 => k_is); (case kf61 => k_is)
  refine' AT.w_de (st := AT.s_waiting_limit) KX G AT.b_waiting_limit ?a62 ?l62 ?c62 ?kf62 fun g_waiting_limit d_waiting_limit => ?m62
  (case a62 => k_is); (case l62 => k_is); (case c62 => k_is); (case kf62 => k_is)
  refine' AT.w_de (st := AT.s_counting_start) KX G AT.b_counting_start ?a63 ?l63 ?c63 ?kf63 fun g_counting_start d_counting_start => ?m63
  (case a63 => k_is); (case l63 => k_is); (case c63 => k_is); (case kf63 => k_is)
  refine' AT.w_de (st := AT.s_count_seconds) KX G AT.b_count_seconds ?a64 ?l64 ?c64 ?kf64 fun g_count_seconds d_count_seconds => ?m64
  (case a64 => k_is); (case l64 => k_is); (case c64 => k_is); (case kf64 => k_is)
  refine' AT.w_de (st := AT.s_do_deed) KX G AT.b_do_deed ?a65 ?l65 ?c65 ?kf65 fun g_do_deed d_do_deed => ?m65
  (case a65 => k_is); (case l65 => k_is); (case c65 => k_is); (case kf65 => k_is)
  refine' AT.w_de (st := AT.s_writing_refusal) KX G AT.b_writing_refusal ?a66 ?l66 ?c66 ?kf66 fun g_writing_refusal d_writing_refusal => ?m66
  (case a66 => k_is); (case l66 => k_is); (case c66 => k_is); (case kf66 => k_is)
  refine' AT.w_de (st := AT.s_define) KX G AT.b_define ?a67 ?l67 ?c67 ?kf67 fun g_define d_define => ?m67
  (case a67 => k_is); (case l67 => k_is); (case c67 => k_is); (case kf67 => k_is)
  refine' AT.w_de (st := AT.s_link) KX G AT.b_link ?a68 ?l68 ?c68 ?kf68 fun g_link d_link => ?m68
  (case a68 => k_is); (case l68 => k_is); (case c68 => k_is); (case kf68 => k_is)
  refine' AT.w_de (st := AT.s_unlink) KX G AT.b_unlink ?a69 ?l69 ?c69 ?kf69 fun g_unlink d_unlink => ?m69
  (case a69 => k_is); (case l69 => k_is); (case c69 => k_is); (case kf69 => k_is)
  refine' AT.w_de (st := AT.s_on) KX G AT.b_on ?a70 ?l70 ?c70 ?kf70 fun g_on d_on => ?m70
  (case a70 => k_is); (case l70 => k_is); (case c70 => k_is); (case kf70 => k_is)
  refine' AT.w_de (st := AT.s_off) KX G AT.b_off ?a71 ?l71 ?c71 ?kf71 fun g_off d_off => ?m71
  (case a71 => k_is); (case l71 => k_is); (case c71 => k_is); (case kf71 => k_is)
  refine' AT.w_de (st := AT.s_sense) KX G AT.b_sense ?a72 ?l72 ?c72 ?kf72 fun g_sense d_sense => ?m72
  (case a72 => k_is); (case l72 => k_is); (case c72 => k_is); (case kf72 => k_is)
  refine' AT.w_de (st := AT.s_tick) KX G AT.b_tick ?a73 ?l73 ?c73 ?kf73 fun g_tick d_tick => ?m73
  (case a73 => k_is); (case l73 => k_is); (case c73 => k_is); (case kf73 => k_is)
  refine' AT.w_de (st := AT.s_ack) KX G AT.b_ack ?a74 ?l74 ?c74 ?kf74 fun g_ack d_ack => ?m74
  (case a74 => k_is); (case l74 => k_is); (case c74 => k_is); (case kf74 => k_is)
  refine' AT.w_de (st := AT.s_ack_to) KX G AT.b_ack_to ?a75 ?l75 ?c75 ?kf75 fun g_ack_to d_ack_to => ?m75
  (case a75 => k_is); (case l75 => k_is); (case c75 => k_is); (case kf75 => k_is)
  refine' AT.w_de (st := AT.s_silence) KX G AT.b_silence ?a76 ?l76 ?c76 ?kf76 fun g_silence d_silence => ?m76
  (case a76 => k_is); (case l76 => k_is); (case c76 => k_is); (case kf76 => k_is)
  refine' AT.w_de (st := AT.s_reset) KX G AT.b_reset ?a77 ?l77 ?c77 ?kf77 fun g_reset d_reset => ?m77
  (case a77 => k_is); (case l77 => k_is); (case c77 => k_is); (case kf77 => k_is)
  refine' AT.w_de (st := AT.s_reset_all) KX G AT.b_reset_all ?a78 ?l78 ?c78 ?kf78 fun g_reset_all d_reset_all => ?m78
  (case a78 => k_is); (case l78 => k_is); (case c78 => k_is); (case kf78 => k_is)
  refine' AT.w_de (st := AT.s_shelve) KX G AT.b_shelve ?a79 ?l79 ?c79 ?kf79 fun g_shelve d_shelve => ?m79
  (case a79 => k_is); (case l79 => k_is); (case c79 => k_is); (case kf79 => k_is)
  refine' AT.w_de (st := AT.s_unshelve) KX G AT.b_unshelve ?a80 ?l80 ?c80 ?kf80 fun g_unshelve d_unshelve => ?m80
  (case a80 => k_is); (case l80 => k_is); (case c80 => k_is); (case kf80 => k_is)
  refine' AT.w_de (st := AT.s_set_clock) KX G AT.b_set_clock ?a81 ?l81 ?c81 ?kf81 fun g_set_clock d_set_clock => ?m81
  (case a81 => k_is); (case l81 => k_is); (case c81 => k_is); (case kf81 => k_is)
  refine' AT.w_de (st := AT.s_renew) KX G AT.b_renew ?a82 ?l82 ?c82 ?kf82 fun g_renew d_renew => ?m82
  (case a82 => k_is); (case l82 => k_is); (case c82 => k_is); (case kf82 => k_is)
  refine' AT.w_de (st := AT.s_change) KX G AT.b_change ?a83 ?l83 ?c83 ?kf83 fun g_change d_change => ?m83
  (case a83 => k_is); (case l83 => k_is); (case c83 => k_is); (case kf83 => k_is)
  refine' AT.w_de (st := AT.s_answer) KX G AT.b_answer ?a84 ?l84 ?c84 ?kf84 fun g_answer d_answer => ?m84
  (case a84 => k_is); (case l84 => k_is); (case c84 => k_is); (case kf84 => k_is)
  refine' AT.w_de (st := AT.s_answers) KX G AT.b_answers ?a85 ?l85 ?c85 ?kf85 fun g_answers d_answers => ?m85
  (case a85 => k_is); (case l85 => k_is); (case c85 => k_is); (case kf85 => k_is)
  refine' AT.w_dict (x := "CALLS_changing") KX G ?a86 ?l86 ?sy_callsC ?ky_callsC fun callsC kdC => ?m86
  (case a86 => k_is); (case l86 => k_is)
  (case sy_callsC => rfl); (case ky_callsC => rfl)
  refine' AT.w_dict (x := "CALLS_asking") KX G ?a87 ?l87 ?sy_callsA ?ky_callsA fun callsA kdA => ?m87
  (case a87 => k_is); (case l87 => k_is)
  (case sy_callsA => rfl); (case ky_callsA => rfl)
  refine' AT.w_dict (x := "WIDTHS") KX G ?a88 ?l88 ?sy_widths ?ky_widths fun widths kdW => ?m88
  (case a88 => k_is); (case l88 => k_is)
  (case sy_widths => rfl); (case ky_widths => rfl)
  refine' AT.w_ranges KX G ?a89 ?l89 ?l0_89 ?l1_89 ?l2_89 ?l3_89 ?l4_89 ?l5_89 fun ranges => ?m89
  (case a89 => k_is); (case l89 => k_is); (case l0_89 => k_is); (case l1_89 => k_is); (case l2_89 => k_is); (case l3_89 => k_is); (case l4_89 => k_is); (case l5_89 => k_is)
  refine' AT.w_ranks KX G ?a90 ?l90 fun ranks => ?m90
  (case a90 => k_is); (case l90 => k_is)
  refine' AT.w_gi (x := "RAISED") (i := 0) KX G ?a91 fun t_RAISED => ?m91
  (case a91 => k_is)
  refine' AT.w_gi (x := "GREW") (i := 1) KX G ?a92 fun t_GREW => ?m92
  (case a92 => k_is)
  refine' AT.w_gi (x := "SOUNDED_AGAIN") (i := 2) KX G ?a93 fun t_SOUNDED_AGAIN => ?m93
  (case a93 => k_is)
  refine' AT.w_gi (x := "ACKNOWLEDGED") (i := 3) KX G ?a94 fun t_ACKNOWLEDGED => ?m94
  (case a94 => k_is)
  refine' AT.w_gi (x := "WENT") (i := 4) KX G ?a95 fun t_WENT => ?m95
  (case a95 => k_is)
  refine' AT.w_gi (x := "RESET") (i := 5) KX G ?a96 fun t_RESET => ?m96
  (case a96 => k_is)
  refine' AT.w_gi (x := "MOST_KEPT") (i := 64) KX G ?a97 fun t_MOST_KEPT => ?m97
  (case a97 => k_is)
  refine' AT.w_gi (x := "END_NUMBER") (i := 2000) KX G ?a98 fun t_END_NUMBER => ?m98
  (case a98 => k_is)
  refine' AT.w_gi (x := "OUT_OF_RANGE") (i := (-1)) KX G ?a99 fun t_OUT_OF_RANGE => ?m99
  (case a99 => k_is)
  refine' AT.w_gi (x := "PAPER_AT_END") (i := (-2)) KX G ?a100 fun t_PAPER_AT_END => ?m100
  (case a100 => k_is)
  refine' AT.w_gi (x := "TOO_MANY_KINDS") (i := (-3)) KX G ?a101 fun t_TOO_MANY_KINDS => ?m101
  (case a101 => k_is)
  refine' AT.w_gi (x := "LINK_IN_A_CIRCLE") (i := (-4)) KX G ?a102 fun t_LINK_IN_A_CIRCLE => ?m102
  (case a102 => k_is)
  refine' AT.w_gi (x := "CLOCK_TOO_FAR") (i := (-5)) KX G ?a103 fun t_CLOCK_TOO_FAR => ?m103
  (case a103 => k_is)
  refine' AT.w_gi (x := "NOT_RAISED") (i := (-6)) KX G ?a104 fun t_NOT_RAISED => ?m104
  (case a104 => k_is)
  refine' AT.w_gi (x := "CONDITION_HOLDS") (i := (-7)) KX G ?a105 fun t_CONDITION_HOLDS => ?m105
  (case a105 => k_is)
  refine' AT.w_gi (x := "NOT_ACKNOWLEDGED") (i := (-8)) KX G ?a106 fun t_NOT_ACKNOWLEDGED => ?m106
  (case a106 => k_is)
  refine' AT.w_gi (x := "OTHERS_COME_BEFORE") (i := (-9)) KX G ?a107 fun t_OTHERS_COME_BEFORE => ?m107
  (case a107 => k_is)
  refine' AT.w_gi (x := "NOTHING_SOUNDS") (i := (-10)) KX G ?a108 fun t_NOTHING_SOUNDS => ?m108
  (case a108 => k_is)
  refine' AT.w_gi (x := "RANK_TOO_GRAVE") (i := (-11)) KX G ?a109 fun t_RANK_TOO_GRAVE => ?m109
  (case a109 => k_is)
  refine' AT.w_gi (x := "ALREADY_RAISED") (i := (-12)) KX G ?a110 fun t_ALREADY_RAISED => ?m110
  (case a110 => k_is)
  refine' AT.w_gi (x := "CLOCK_GOES_BACK") (i := (-13)) KX G ?a111 fun t_CLOCK_GOES_BACK => ?m111
  (case a111 => k_is)
  refine' AT.w_gi (x := "TABLE_NOT_AT_REST") (i := (-14)) KX G ?a112 fun t_TABLE_NOT_AT_REST => ?m112
  (case a112 => k_is)
  refine' AT.w_gi (x := "GREATEST_ASKED") (i := 1000000) KX G ?a113 fun t_GREATEST_ASKED => ?m113
  (case a113 => k_is)
  refine' AT.w_gi (x := "GRAVEST") (i := 3) KX G ?a114 fun t_GRAVEST => ?m114
  (case a114 => k_is)
  refine' AT.w_gi (x := "NEVER") (i := 1000000) KX G ?a115 fun t_NEVER => ?m115
  (case a115 => k_is)
  refine' AT.w_gi (x := "MOST_KINDS") (i := 32) KX G ?a116 fun t_MOST_KINDS => ?m116
  (case a116 => k_is)
  refine' AT.w_gi (x := "LAST_SECOND") (i := 1000000000) KX G ?a117 fun t_LAST_SECOND => ?m117
  (case a117 => k_is)
  refine' AT.w_gi (x := "GRAVEST_SHELVED") (i := 1) KX G ?a118 fun t_GRAVEST_SHELVED => ?m118
  (case a118 => k_is)
  refine' AT.w_gi (x := "FIRST_ASKING_PLACE") (i := 16) KX G ?a119 fun t_FIRST_ASKING_PLACE => ?m119
  (case a119 => k_is)
  refine' AT.w_no (x := "len") KX G ?a120 fun no_len => ?m120
  (case a120 => k_is)
  refine' AT.w_no (x := "any") KX G ?a121 fun no_any => ?m121
  (case a121 => k_is)
  refine' AT.w_no (x := "max") KX G ?a122 fun no_max => ?m122
  (case a122 => k_is)
  refine' AT.w_no (x := "min") KX G ?a123 fun no_min => ?m123
  (case a123 => k_is)
  refine' AT.w_no (x := "sorted") KX G ?a124 fun no_sorted => ?m124
  (case a124 => k_is)
  refine' AT.w_no (x := "zip") KX G ?a125 fun no_zip => ?m125
  (case a125 => k_is)
  refine' AT.w_no (x := "int") KX G ?a126 fun no_int => ?m126
  (case a126 => k_is)
  have tops : AT.Tops mg := ⟨t_RAISED, t_GREW, t_SOUNDED_AGAIN, t_ACKNOWLEDGED, t_WENT, t_RESET, t_MOST_KEPT, t_END_NUMBER, t_OUT_OF_RANGE, t_PAPER_AT_END, t_TOO_MANY_KINDS, t_LINK_IN_A_CIRCLE, t_CLOCK_TOO_FAR, t_NOT_RAISED, t_CONDITION_HOLDS, t_NOT_ACKNOWLEDGED, t_OTHERS_COME_BEFORE, t_NOTHING_SOUNDS, t_RANK_TOO_GRAVE, t_ALREADY_RAISED, t_CLOCK_GOES_BACK, t_TABLE_NOT_AT_REST, t_GREATEST_ASKED, t_GRAVEST, t_NEVER, t_MOST_KINDS, t_LAST_SECOND, t_GRAVEST_SHELVED, t_FIRST_ASKING_PLACE, no_len, no_any, no_max, no_min, no_sorted, no_zip, no_int⟩;have T : AT.Text _ mg ⟨_, _, _, _, _, _⟩ _ _ _ _ _ _ := ⟨Event_c, Standing_c, Paper_c, Links_c, Kind_c, Table_c, Event_i, Standing_i, Paper_i, Links_i, Kind_i, Table_i, m_Paper_at_end, m_Paper_take_number, m_Paper_carry_over, m_Paper_write, m_Paper_move_into_base, m_Links_put, m_Links_take_away, m_Links_all_before, d_is_silent, d_is_shelved, d_raised_kinds, d_raising_number, d_raised_in_turn, d_write_event, d_raise_kind, d_grow_rank, d_sound_again, d_acknowledge, d_go_by_itself, d_reset_kind, d_lower, d_start_condition, d_end_condition, d_sound_level, d_within, d_has_kind, d_raised_before, d_reset_refusal, d_next_to_reset, d_reset_order, d_least_free, d_counted, d_tell_sound, d_tell_stops, d_tell_shown, d_urgency, d_tell_kind, d_tell_tally, d_tell_first, d_tell_before, d_tell_behind, d_tell_order, d_tell_why, d_tell_log, d_tell_base, d_tell_time, d_tell, d_pass_seconds, d_seconds_to_deed, d_waiting_limit, d_counting_start, d_count_seconds, d_do_deed, d_writing_refusal, d_define, d_link, d_unlink, d_on, d_off, d_sense, d_tick, d_ack, d_ack_to, d_silence, d_reset, d_reset_all, d_shelve, d_unshelve, d_set_clock, d_renew, d_change, d_answer, d_answers, tops, ranges, ranks, callsC, kdC, callsA, kdA, widths, kdW, ?wd, C5 rfl g_define.symm, C5 rfl g_link.symm, C5 rfl g_unlink.symm, C5 rfl g_on.symm, C5 rfl g_off.symm, C5 rfl g_sense.symm, C5 rfl g_tick.symm, C5 rfl g_ack.symm, C5 rfl g_ack_to.symm, C5 rfl g_silence.symm, C5 rfl g_reset.symm, C5 rfl g_reset_all.symm, C5 rfl g_shelve.symm, C5 rfl g_unshelve.symm, C5 rfl g_set_clock.symm, C5 rfl g_renew.symm, C5 rfl g_tell_sound.symm, C5 rfl g_tell_stops.symm, C5 rfl g_tell_shown.symm, C5 rfl g_tell_kind.symm, C5 rfl g_tell_tally.symm, C5 rfl g_tell_first.symm, C5 rfl g_tell_before.symm, C5 rfl g_tell_behind.symm, C5 rfl g_tell_order.symm, C5 rfl g_tell_why.symm, C5 rfl g_tell_log.symm, C5 rfl g_tell_base.symm, C5 rfl g_tell_time.symm⟩
  case wd =>
   intro p n hs
   rcases (AT.shape_width hs).2 with ⟨rfl, rfl⟩ | ⟨rfl | rfl | rfl | rfl, rfl⟩ | ⟨rfl | rfl | rfl | rfl | rfl | rfl | rfl | rfl | rfl | rfl | rfl | rfl | rfl | rfl, rfl⟩ | ⟨rfl | rfl | rfl | rfl | rfl | rfl | rfl | rfl | rfl | rfl, rfl⟩ <;> exact ⟨_, rfl⟩
  exact T.fin hmg
