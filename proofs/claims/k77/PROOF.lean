import PyProof.Rows.All
import Wide.All
import OpenK.AllK
import Wide.FinOn
import HandS.ForMost
import HandS.IsInst
import HandS.Wide
import HandS.Style
import HandS.Walk
import HandS.Zip
import HandS.Flow
import HandS.ForExc
import HandS.ExcInit
import HandS.Property
import HandS.TupSets
import HandS.Ends
import HandS.OwnEq
import HandS.MakeKw
import HandS.MakeKwOnly
import HandS.DictComp
import HandS.SortKw
import HandS.SortInts
import HandS.Conv
import KE.GoesEnumKw
import KE.GoesMore
import PyProof.InstEq
import HandS.Deep
import HandS.Remove
import HandS.DictEq
import HandS.Small
import HandS.ExcOwn
import HandS.RaiseMore
import KE.KDictZip
import KE.KTupSum
import PySem.Challenge.RW_orderlycore_k77_whole_loads_get_what_the
set_option Elab.async false
set_option linter.all false
set_option maxRecDepth 100000
set_option maxHeartbeats 4000000
namespace Hx
open PySem PySem.Spec PyProof.Rows L2
/-! ### own rules -/
section
variable {X : Cx} {CX : CXT} {k : Nat} {f : Addr} {fd : FuncData} {ps ks : List Str} {sp : Sp} {E : XK} {x : Str} {p pos : Pos} {kws : List Keyword} {tk : TA} {g : List Value → List Value → List Value} {gV : List V → List V → List V}
theorem pe_callKA (F : FnOk X.prog X.w X.K X.mg X.base CX k f fd ps sp) (hr : Room k X.A) (hg : Gl X x) (hm : X.mg x = some (.ref f)) (hk : PySem.W.keepIn X.K (.ref f) = true) (hb : KBinds X.K fd ps ks g gV) (hx : Passes CX X E)
    (hkw : PK X kws tk) (hall : (backToKw pos (keywordEach kws X.env)).all (·.1.isSome) = true := by rfl) (hks : (backToKw pos (keywordEach kws X.env)).filterMap (·.1) = ks := by rfl)
    (hdb : (x == ("__debug__" : Str)) = false := by decide)
    (hpl : ((backTo pos (starEach [] X.env)).any (·.1) || (backToKw pos (keywordEach kws X.env)).any (·.1.isNone)) = false := by rfl) :
    PE X (.Call (.Name x p) [] kws pos) (tCallK sp gV E tNil tk) := by
  refine ⟨fun pins s σ H Q I h => ?_⟩
  refine wpAny_Call_Name_kw (ld_glob I hg hm ?_ hdb)
  refine PySem.W.callWith_KW0 (h₀ := X.base) I.ok.mod.kin hk hall ?_ hpl
  refine thn (hkw.run pos pins s σ H _ I h) fun ws s2 ⟨zs, H2, I2, rz, q2⟩ => ⟨I2.kIn, ?_⟩
  rw [hks]
  exact run_fnk F hr hb hx I2 .nil rz q2
/-- all by keywords, in the parameters' own order -/
def kwG {α : Type} (us ws : List α) : List α := match us with | [] => ws | _ => []
theorem kw_binds {K : PySem.W.Frag} {x qual : Str} {st : Stmt} {f : Addr} {fd : FuncData} {ps : List Str} (F : Fun K x qual st f fd) (h0 : 0 < ps.length)
    (h : ∀ (kV doc pm : Value) (an : Option Addr) (cdv ct : Value) (us : List Value), us.length = ps.length → bindArgs (PySem.W.fnOf x qual (defArgs st) (defBody st) (defScope st) .none kV doc pm an cdv ct) ⟨[], ps.zip us⟩ = pure (ps.zip us)) : KBinds K fd ps ps kwG kwG := by
  obtain ⟨oc, od, kV, doc, pm, an, cdv, ct, osl, rfl, lk, hcd⟩ := F.ex
  refine ⟨fun s us ws _ hl => ?_, fun {vs us zs ws} r1 r2 => ?_⟩
  · cases us with
    | nil => exact .of_eq (h kV doc pm an cdv ct ws hl)
    | cons a t => exact absurd hl (by simp [kwG]; omega)
  · cases r1 with
    | nil => exact r2
    | cons a t => exact .nil
theorem pg_pair {i j : Nat} {x y : Str} {p1 p2 : Pos} {kk : Nat} (hc : X.calm = true) (hN : X.N.Nodup) (hi : X.N[i]? = some x) (hj : X.N[j]? = some y) (hx : Loc X.env.scope x) (hy : Loc X.env.scope y)
    (hf : X.fn x = true ∨ X.env.scope.names.lookup x = some .local := by first | exact .inl rfl | exact .inr rfl | assumption) (hf2 : X.fn y = true ∨ X.env.scope.names.lookup y = some .local := by first | exact .inl rfl | exact .inr rfl | assumption)
    (hn : (assignEach [Expr.Name x p1, .Name y p2] X.env).length = 2 := by rfl) (hst : (assignEach [Expr.Name x p1, .Name y p2] X.env).findIdx? (·.1) = none := by rfl)
    (hs : (assignEach [Expr.Name x p1, .Name y p2] X.env).map (·.2) = assign (.Name x p1) X.env :: (assignEach [Expr.Name y p2] X.env).map (·.2) := by rfl)
    (hs2 : (assignEach [Expr.Name y p2] X.env).map (·.2) = assign (.Name y p2) X.env :: (assignEach [] X.env).map (·.2) := by rfl) :
    PG X (.Tuple [.Name x p1, .Name y p2] kk pos) (gTup X.K 2 (gCons (gName i) (gCons (gName j) gNil))) :=
  pg_tup hc (pgs_cons (pg_name hN hi hx hf) (pgs_cons (pg_name hN hj hy hf2) pgs_nil hs2) hs) hn hst
theorem pe_gint {i : Int} (hg : Gl X x) (hm : ∃ t, X.mg x = some (.int i t)) (hd : (x == ("__debug__" : Str)) = false := by decide) : PE X (.Name x pos) (tC (.int i)) := by
  obtain ⟨t, hm⟩ := hm
  exact pe_glob hg hm ⟨_, rfl⟩ hd
end
theorem call_int1i {X : Cx} : CallR X (.type "int") (fun xs H Q => ∃ i, xs = [.int i] ∧ Q (.int i) H) := fun pins s σ H xs us Q I r h => call_int1 pins s σ H xs us Q I r (.inl h)
theorem call_int1b {X : Cx} : CallR X (.type "int") (fun xs H Q => ∃ k, xs = [.bl k] ∧ Q (.int (if k then 1 else 0)) H) := fun pins s σ H xs us Q I r h => call_int1 pins s σ H xs us Q I r (.inr h)
theorem call_len_list {X : Cx} : CallR X (.builtin "len") (fun xs H Q => ∃ p ys, xs = [.ref p] ∧ SqL X.K H p ys ∧ Q (.int ys.length) H) := fun pins s σ H xs us Q I r ⟨p, ys, e, h, q⟩ => call_len_seq pins s σ H xs us Q I r ⟨p, ys, e, .inl h, q⟩
/-- a goal at which the walker of readings stops -/
structure Stop (p : Prop) : Prop where
  h : p
theorem stop_eq {p : Prop} : Stop p = p := propext ⟨fun q => q.h, fun q => ⟨q⟩⟩
def tForS (wi : TI) (g : TG) (tb : TS) : TS := fun D σ H => wi σ H fun J H1 => Stop (∃ W : Nat → Nat → L2.St → Hp → Prop, (∃ m, W 0 m σ H1) ∧ ∀ i m σ H, W i m σ H →
  (J.stop i H ∧ D.nx σ H) ∨ (J.go i H ∧ ∃ N : L2.St → Hp → Prop, (∀ σ' H', N σ' H' → ∃ m', m' < m ∧ W (i + 1) m' σ' H') ∧ ∀ x H', J.yld i H x H' → g x σ H' fun σ2 H2 => tb { D with nx := N, ct := N, bk := D.nx } σ2 H2))
theorem tForS_eq (wi : TI) (g : TG) (tb : TS) : tForS wi g tb = tFor wi g tb := by
  funext D σ H
  unfold tForS tFor
  simp only [stop_eq]
theorem ps_forS {X : Cx} {tg iter : Expr} {body : List Stmt} {wi : TI} {g : TG} {tb : TS} {pos : Pos} (hp : PassesOwn (model X.prog X.w) X.A X.env X.xe) (hc : X.calm = true) (hi : PI X tg iter wi) (hg : PG X tg g) (hb : PSs X body tb)
    (hs : ∀ x, foldedSetIterable iter X.env x = pure x := by intro _; rfl) : PS X (.For tg iter body [] pos) (tForS wi g tb) := by
  rw [tForS_eq]
  exact ps_for hp hc hi hg hb hs
/-! ### heaps -/
theorem same_upd {H : Hp} {p : Addr} {o : HO} (h : H p = none) : Same H (upd H p o) := fun b u e => by rw [upd_ne (ne_of_none e h)]; exact e
theorem Same.upd {H H1 : Hp} {p : Addr} {o : HO} (s : Same H H1) (h : H1 p = none) : Same H (L2.upd H1 p o) := L2.Same.trans s (same_upd h)
theorem Same.free' {H H1 : Hp} (s : Same H H1) {p : Addr} (h : H1 p = none) : H p = none := L2.Same.free s h
/-- all but a is as it was -/
def But (a : Addr) (H H' : Hp) : Prop := ∀ b o, b ≠ a → H b = some o → H' b = some o
theorem But.refl {a : Addr} (H : Hp) : But a H H := fun _ _ _ h => h
theorem But.trans {a : Addr} {H H1 H2 : Hp} (x : But a H H1) (y : But a H1 H2) : But a H H2 := fun b o n h => y b o n (x b o n h)
theorem But.same {a : Addr} {H H1 : Hp} (x : Same H H1) : But a H H1 := fun b o _ h => x b o h
theorem But.set {a : Addr} {H : Hp} {o : HO} : But a H (upd H a o) := fun b u n h => by rw [upd_ne n]; exact h
theorem But.new {a : Addr} {H H1 : Hp} {p : Addr} {o : HO} (x : But a H H1) (h : H1 p = none) : But a H (upd H1 p o) := x.trans (But.same (same_upd h))
theorem size_le {n : Nat} (h : n ≤ 10000) : n ≤ sizeLine := by rw [sizeLine_eq]; omega
theorem size_lt {n : Nat} (h : n ≤ 10000) : n < sizeLine := by rw [sizeLine_eq]; omega
theorem iteD {c A B : Prop} [Decidable c] (h1 : c → A) (h2 : ¬ c → B) : if decide c = true then A else B := by
  by_cases h : c
  · rw [decide_eq_true h]; exact iteT (h1 h)
  · rw [decide_eq_false h]; exact iteF (h2 h)
theorem iteN {c A B : Prop} [Decidable c] (h1 : ¬ c → A) (h2 : c → B) : if (!decide c) = true then A else B := by
  by_cases h : c
  · rw [decide_eq_true h]; exact iteF (h2 h)
  · rw [decide_eq_false h]; exact iteT (h1 h)
theorem qbl {Q : VK} {b c : Bool} {H : Hp} (k : Q (.bl b) H) (e : c = b) : Q (.bl c) H := e ▸ k
theorem qint {Q : VK} {i j : Int} {H : Hp} (k : Q (.int i) H) (e : j = i) : Q (.int j) H := e ▸ k
theorem same_set {H H1 : Hp} {p : Addr} {o : HO} (s : Same H H1) (n : H p = none) : Same H (upd H1 p o) := fun b u e => by rw [upd_ne (ne_of_none e n)]; exact s b u e
theorem old_upd {H : Hp} {p a : Addr} {o u : HO} (n : H p = none) (h : H a = some u) : upd H p o a = some u := same_upd n _ _ h
theorem SqL.new {K : PySem.W.Frag} {H : Hp} {p a : Addr} {o : HO} {xs : List V} (n : H p = none) (h : SqL K H a xs) : SqL K (upd H p o) a xs := L2.Same.seq (same_upd n) h
theorem tyl_new {K : PySem.W.Frag} {H : Hp} {p a : Addr} {o : HO} {xs : List V} (h : H a = some (.lst xs)) (n : H p = none) : tyV K "list" (.ref a) (upd H p o) := Or.inl ⟨rfl, xs, SqL.of (old_upd n h)⟩
theorem tyl_of {K : PySem.W.Frag} {H : Hp} {a : Addr} {xs : List V} (h : H a = some (.lst xs)) : tyV K "list" (.ref a) H := Or.inl ⟨rfl, xs, SqL.of h⟩
theorem same_at {H H' : Hp} {a : Addr} {u : HO} (s : Same H H') (h : H a = some u) : H' a = some u := s _ _ h
theorem same_trans' {H H1 H2 : Hp} (b : Same H1 H2) (a : Same H H1) : Same H H2 := L2.Same.trans a b
/-! ### comprehensions that keep what stood -/
theorem lc_mapS {K : PySem.W.Frag} {a : Addr} {xs : List V} {g : TG} {te : TE} {vs : List Nat} {σ : L2.St} {H1 : Hp} {D : Addr} {Qd : Hp → Prop} (ys : List V) (ha : SqL K H1 a xs) (hD : H1 D = none) (hl : xs.length = ys.length) (hz : xs.length ≤ 10000)
    (hs : ∀ (i : Nat) (x y : V) (H' : Hp) (Q : VK), xs[i]? = some x → ys[i]? = some y → Same H1 H' → (∀ H'', Same H' H'' → Q y H'') → g x (wipe σ vs) H' fun σ2 H2 => wipe σ2 vs = wipe σ vs ∧ te σ2 H2 Q)
    (hd : ∀ H', Same H1 H' → H' D = some (.lst ys) → Qd H') :
    ∃ W : Nat → Nat → Hp → Prop, (∃ m, W 0 m (upd H1 D (.lst []))) ∧ ∀ i m H, W i m H →
      ((Itl K a).stop i H ∧ Qd H) ∨ ((Itl K a).go i H ∧ ∃ Nx : Hp → Prop, (∀ H', Nx H' → ∃ m', m' < m ∧ W (i + 1) m' H') ∧ ∀ x H', (Itl K a).yld i H x H' → g x (wipe σ vs) H' fun σ2 H2 => wipe σ2 vs = wipe σ vs ∧ tYes σ2 H2 fun b H3 =>
        if b = true then te σ2 H3 fun y H4 => ∃ acc, H4 D = some (.lst acc) ∧ acc.length < sizeLine ∧ Nx (upd H4 D (.lst (acc ++ [y]))) else Nx H3) := by
  refine lc_list (xs := xs) (fun i H => Same H1 H ∧ H D = some (.lst (ys.take i))) ⟨same_upd hD, upd_same⟩ (fun i H _ h => L2.Same.seq h.1 ha) (fun i x H hx h => ?_) (fun H h => hd H h.1 (by rw [h.2, List.take_of_length_le (by omega)]))
  have hi : i < ys.length := by have := (List.getElem?_eq_some_iff.mp hx).1; omega
  refine hs i x ys[i] H _ hx (List.getElem?_eq_getElem hi) h.1 (fun H'' s => ?_)
  refine ⟨ys.take i, s _ _ h.2, size_lt (by simp; omega), same_set (L2.Same.trans h.1 s) hD, ?_⟩
  rw [upd_same, List.take_add_one, List.getElem?_eq_getElem hi]; rfl
theorem lc_mapZ {K : PySem.W.Frag} {a b : Addr} {xs zs : List V} {g : TG} {te : TE} {vs : List Nat} {σ : L2.St} {H1 : Hp} {D : Addr} {Qd : Hp → Prop} (ys : List V) (ha : SqL K H1 a xs) (hb : SqL K H1 b zs) (hD : H1 D = none) (hl : xs.length = ys.length) (hl2 : xs.length = zs.length) (hz : xs.length ≤ 10000)
    (hs : ∀ (i : Nat) (x z y : V) (T : Addr) (H' : Hp) (Q : VK), xs[i]? = some x → zs[i]? = some z → ys[i]? = some y → Same H1 H' → H' T = none → (∀ H'', Same (upd H' T (.tup [x, z])) H'' → Q y H'') → g (.ref T) (wipe σ vs) (upd H' T (.tup [x, z])) fun σ2 H2 => wipe σ2 vs = wipe σ vs ∧ te σ2 H2 Q)
    (hd : ∀ H', Same H1 H' → H' D = some (.lst ys) → Qd H') :
    ∃ W : Nat → Nat → Hp → Prop, (∃ m, W 0 m (upd H1 D (.lst []))) ∧ ∀ i m H, W i m H →
      ((Itz K a b).stop i H ∧ Qd H) ∨ ((Itz K a b).go i H ∧ ∃ Nx : Hp → Prop, (∀ H', Nx H' → ∃ m', m' < m ∧ W (i + 1) m' H') ∧ ∀ x H', (Itz K a b).yld i H x H' → g x (wipe σ vs) H' fun σ2 H2 => wipe σ2 vs = wipe σ vs ∧ tYes σ2 H2 fun b H3 =>
        if b = true then te σ2 H3 fun y H4 => ∃ acc, H4 D = some (.lst acc) ∧ acc.length < sizeLine ∧ Nx (upd H4 D (.lst (acc ++ [y]))) else Nx H3) := by
  refine lc_it (walk_zip (xs := xs) (ys := zs) (n := xs.length) (by omega)) (fun i H => Same H1 H ∧ H D = some (.lst (ys.take i))) ⟨same_upd hD, upd_same⟩ (fun i H _ h => ⟨L2.Same.seq h.1 ha, L2.Same.seq h.1 hb⟩) (fun i x H H' hi h y => ?_) (fun H h => hd H h.1 (by rw [h.2, List.take_of_length_le (by omega)]))
  obtain ⟨T, x', z', rfl, hT, rfl, hx, hz'⟩ := y
  have hi' : i < ys.length := by omega
  refine hs i x' z' ys[i] T H _ hx hz' (List.getElem?_eq_getElem hi') h.1 hT (fun H'' s => ?_)
  refine ⟨ys.take i, s _ _ (old_upd hT h.2), size_lt (by simp; omega), same_set (L2.Same.trans (Same.upd h.1 hT) s) hD, ?_⟩
  rw [upd_same, List.take_add_one, List.getElem?_eq_getElem hi']; rfl
/-! ### two lists of the same ints -/
theorem dp_ints {K : PySem.W.Frag} {H : Hp} : ∀ ns : List Int, DpAll K H (ns.map V.int) (ns.map PyData.int)
  | [] => .nil
  | n :: r => .cons (.int n) (dp_ints r)
theorem sh_ints (ns : List Int) : SeqAt.shaped (.list (ns.map PyData.int)) = true := PySem.W.shaped_ints ns
theorem eqv_ints (ns : List Int) : PyData.eqv (.list (ns.map PyData.int)) (.list (ns.map PyData.int)) = true := SeqAt.eqv_refl _ (SeqAt.canLay_of_shaped (sh_ints ns))
theorem op_eqLI {X : Cx} (hu : X.A.units + 64 < cLine) : OpR X (compareOp .Eq) (fun x y H Q => ∃ (p q : Addr) (ns : List Int), x = .ref p ∧ y = .ref q ∧ SqL X.K H p (ns.map V.int) ∧ SqL X.K H q (ns.map V.int) ∧ Q (.bl true) H) := by
  intro pins s σ H x y v u Q I rx ry ⟨p, q, ns, e1, e2, h1, h2, k⟩
  refine op_eqD hu pins s σ H x y v u Q I rx ry ⟨.list (ns.map PyData.int), .list (ns.map PyData.int), ?_, ?_, ?_, ?_, ?_⟩
  · rw [e1]; exact .lst h1 (dp_ints ns)
  · rw [e2]; exact .lst h2 (dp_ints ns)
  · exact sh_ints ns
  · exact sh_ints ns
  · rw [eqv_ints]; exact k
theorem op_neLI {X : Cx} (hu : X.A.units + 64 < cLine) : OpR X (compareOp .NotEq) (fun x y H Q => ∃ (p q : Addr) (ns : List Int), x = .ref p ∧ y = .ref q ∧ SqL X.K H p (ns.map V.int) ∧ SqL X.K H q (ns.map V.int) ∧ Q (.bl false) H) := by
  intro pins s σ H x y v u Q I rx ry ⟨p, q, ns, e1, e2, h1, h2, k⟩
  refine op_neD hu pins s σ H x y v u Q I rx ry ⟨.list (ns.map PyData.int), .list (ns.map PyData.int), ?_, ?_, ?_, ?_, ?_⟩
  · rw [e1]; exact .lst h1 (dp_ints ns)
  · rw [e2]; exact .lst h2 (dp_ints ns)
  · exact sh_ints ns
  · exact sh_ints ns
  · rw [eqv_ints]; exact k
/-! ### the pot -/
structure Pot (H : Hp) (a : Addr) : Prop where
  ex : ∃ x y : Int, H a = some (.lst [.int x, .int y]) ∧ 0 ≤ x ∧ 0 ≤ y ∧ y < 4294967296
theorem Pot.same {H H' : Hp} {a : Addr} (s : Same H H') (h : Pot H a) : Pot H' a := by
  obtain ⟨x, y, e, r⟩ := h
  exact ⟨x, y, s _ _ e, r⟩
theorem Pot.new {H : Hp} {a p : Addr} {o : HO} (h : Pot H a) (n : H p = none) : Pot (upd H p o) a := h.same (same_upd n)
theorem Pot.ne {H : Hp} {a p : Addr} (h : Pot H a) (n : H p = none) : p ≠ a := by
  obtain ⟨x, y, e, r⟩ := h
  exact fun z => by rw [z, e] at n; cases n
theorem mulw {i j : Int} {a b : Nat} (ha : i.natAbs < 2 ^ a) (hb : j.natAbs < 2 ^ b) (h0 : 0 < a := by decide) (h1 : 0 < b := by decide) (h : a + b ≤ 1000000 := by decide) : CMulW i j := wide_mul ha hb h0 h1 h
theorem mulw64 {i j : Int} (ha : i.natAbs < 18446744073709551616) (hb : j.natAbs < 18446744073709551616) : CMulW i j := wide_mul (a := 64) (b := 64) ha hb (by decide) (by decide) (by decide)
theorem pick_at {xs : List V} {d : Int} (h0 : 0 ≤ d) (h1 : d < xs.length) : ∃ v, atI xs d = some v ∧ v ∈ xs := by
  have hd : d.toNat < xs.length := by omega
  exact ⟨xs[d.toNat], at_of (j := d.toNat) (by omega) (List.getElem?_eq_getElem hd), List.getElem_mem hd⟩
theorem take_fold {α β : Type} {f : β → α → β} {z : β} {l : List α} {i : Nat} {x : α} (h : l[i]? = some x) : (l.take (i + 1)).foldl f z = f ((l.take i).foldl f z) x := by
  rw [List.take_add_one, h, Option.toList_some, List.foldl_append]; rfl
theorem int_get {ns : List Int} {i : Nat} {x : V} (h : (ns.map V.int)[i]? = some x) : ∃ z, x = .int z ∧ ns[i]? = some z := by
  rw [List.getElem?_map] at h
  obtain ⟨z, hz, e⟩ := Option.map_eq_some_iff.mp h
  exact ⟨z, e.symm, hz⟩
/-- called with the pot and how many: a number below that, and the pot is still one -/
def spDraw : Sp := fun vs H Q _ => ∃ (a : Addr) (n : Int), vs = [.ref a, .int n] ∧ Pot H a ∧ 0 < n ∧ n < 1073741824 ∧
  ∀ (d : Int) (H' : Hp), 0 ≤ d → d < n → Pot H' a → But a H H' → Q (.int d) H'
end Hx

set_option Elab.async false
set_option linter.all false
set_option maxRecDepth 100000
set_option maxHeartbeats 4000000
namespace Hx
open PySem PySem.Spec PyProof.Rows L2
/-! ### own rules for objects and errors -/
def kwM {α : Type} (us ws : List α) : List α := match us with | [x] => x :: ws | _ => []
theorem kw_bindsM {K : PySem.W.Frag} {x qual : Str} {st : Stmt} {f : Addr} {fd : FuncData} {ps : List Str} (F : Fun K x qual st f fd) (h0 : 0 < ps.length)
    (h : ∀ (kV doc pm : Value) (an : Option Addr) (cdv ct : Value) (u : Value) (us : List Value), us.length = ps.tail.length → bindArgs (PySem.W.fnOf x qual (defArgs st) (defBody st) (defScope st) .none kV doc pm an cdv ct) ⟨[u], ps.tail.zip us⟩ = pure (ps.zip (u :: us))) : KBinds K fd ps ps.tail kwM kwM := by
  obtain ⟨oc, od, kV, doc, pm, an, cdv, ct, osl, rfl, lk, hcd⟩ := F.ex
  refine ⟨fun s us ws _ hl => ?_, fun {vs us zs ws} r1 r2 => ?_⟩
  · match us, hl with
    | [], hl => exact absurd hl (by simp [kwM]; omega)
    | [u], hl => exact .of_eq (h kV doc pm an cdv ct u ws (by simp [kwM] at hl ⊢; omega))
    | _ :: _ :: _, hl => exact absurd hl (by simp [kwM]; omega)
  · cases r1 with
    | nil => exact .nil
    | cons a t =>
      cases t with
      | nil => exact .cons a r2
      | cons b t => exact .nil
section
variable {X : Cx} {CX : CXT} {k : Nat} {f C : Addr} {fd : FuncData} {ps ks : List Str} {sp : Sp} {E : L2.St → XK} {E1 : XK} {x m : Str} {p pos apos : Pos} {e o : Expr} {es : List Expr} {ta : TE} {t tk : TA} {kws : List Keyword} {g : List Value → List Value → List Value} {gV : List V → List V → List V}
def tMethA (C : Addr) (m : Str) (sp : Sp) (E : L2.St → XK) (ta : TE) (t : TA) : TE := fun σ H Q => ta σ H fun x H1 => ∃ a dx fs, x = .ref a ∧ H1 a = some (.ins C dx fs) ∧ fs.lookup m = none ∧ t σ H1 fun vs H2 => sp (x :: vs) H2 Q (E σ)
/-- o.m(e, ..) that may raise, within a try -/
theorem pe_methA {E : L2.St → XK} {pl : Sem Bool} (he : PE X o ta) (c : Cls X.K C) (hm : Meth X.K C m f) (F : FnOk X.prog X.w X.K X.mg X.base CX k f fd ps sp) (hr : Room k X.A) (hb : Binds X.K fd ps []) (hx : ∀ σ, PassesAt CX X σ (E σ)) (ha : PA X (e :: es) t)
    (hst : starEach (e :: es) X.env = (false, eval e X.env) :: starEach es X.env := by rfl) (hpl : (backTo pos (starEach es X.env)).any (·.1) = false := by rfl)
    (ht : eval (.Call (.Attribute o m apos) (e :: es) [] pos) X.env = (do
      let ov ← eval o X.env
      standAt apos.atName
      let (f, first) ← holding [ov] (getMethod ov m pl)
      callWith pos f first (backTo pos (starEach (e :: es) X.env)) (backToKw pos (keywordEach [] X.env))) := by rfl) :
    PE X (.Call (.Attribute o m apos) (e :: es) [] pos) (tMethA C m sp E ta t) := by
  refine ⟨fun pins s σ H Q I h => ?_⟩
  refine PySem.W.methodCall_KW (pl := pl) (thn (he.run pins s σ H _ I h) fun u s1 ⟨x, H1, I1, rx, a, dx, fs, ex, ea, l, q⟩ => ?_) ht
  subst ex
  obtain rfl : u = Value.ref a := rx
  refine getmeth_ok I1 ea c hm l ?_
  refine PySem.W.callWith_K (first := [.ref a]) (h₀ := X.base) I.ok.mod.kin hm.kp (thn (ha.run pos pins s1 σ H1 _ I1 q) fun us s2 ⟨vs, H2, I2, r, q2⟩ => ⟨I2.kIn, ?_⟩) hst hpl
  exact run_fnS (us := .ref a :: us) (vs := .ref a :: vs) F hr hb (hx σ) I2 (.cons rfl r) q2
def tMethK (C : Addr) (m : Str) (sp : Sp) (gV : List V → List V → List V) (E : XK) (ta : TE) (tk : TA) : TE := fun σ H Q => ta σ H fun x H1 => ∃ a dx fs, x = .ref a ∧ H1 a = some (.ins C dx fs) ∧ fs.lookup m = none ∧ tk σ H1 fun zs H2 => sp (gV [x] zs) H2 Q E
/-- o.m(k=e, ..) -/
theorem pe_methKA {pl : Sem Bool} (he : PE X o ta) (c : Cls X.K C) (hm : Meth X.K C m f) (F : FnOk X.prog X.w X.K X.mg X.base CX k f fd ps sp) (hr : Room k X.A) (hb : KBinds X.K fd ps ks g gV) (hx : Passes CX X E1)
    (hkw : PK X kws tk) (hall : (backToKw pos (keywordEach kws X.env)).all (·.1.isSome) = true := by rfl) (hks : (backToKw pos (keywordEach kws X.env)).filterMap (·.1) = ks := by rfl)
    (hpl : ((backTo pos (starEach [] X.env)).any (·.1) || (backToKw pos (keywordEach kws X.env)).any (·.1.isNone)) = false := by rfl)
    (ht : eval (.Call (.Attribute o m apos) [] kws pos) X.env = (do
      let ov ← eval o X.env
      standAt apos.atName
      let (f, first) ← holding [ov] (getMethod ov m pl)
      callWith pos f first (backTo pos (starEach [] X.env)) (backToKw pos (keywordEach kws X.env))) := by rfl) :
    PE X (.Call (.Attribute o m apos) [] kws pos) (tMethK C m sp gV E1 ta tk) := by
  refine ⟨fun pins s σ H Q I h => ?_⟩
  refine PySem.W.methodCall_KW (pl := pl) (thn (he.run pins s σ H _ I h) fun u s1 ⟨x, H1, I1, rx, a, dx, fs, ex, ea, l, q⟩ => ?_) ht
  subst ex
  obtain rfl : u = Value.ref a := rx
  refine getmeth_ok I1 ea c hm l ?_
  refine PySem.W.callWith_KW0 (first := [.ref a]) (h₀ := X.base) I.ok.mod.kin hm.kp hall ?_ hpl
  refine thn (hkw.run pos pins s1 σ H1 _ I1 q) fun ws s2 ⟨zs, H2, I2, rz, q2⟩ => ⟨I2.kIn, ?_⟩
  rw [hks]
  exact run_fnk (us := [.ref a]) (vs := [.ref a]) F hr hb hx I2 (.cons rfl .nil) rz q2
theorem PI.or {tg iter : Expr} {w1 w2 : TI} (h1 : PI X tg iter w1) (h2 : PI X tg iter w2) : PI X tg iter (fun σ H R => w1 σ H R ∨ w2 σ H R) := ⟨fun pins s σ H R I h => h.elim (h1.run pins s σ H R I) (h2.run pins s σ H R I)⟩
end
theorem exm_self {K : PySem.W.Frag} {S : Addr} (h1 : PySem.W.subIn K (.ref S) (.type "BaseException") = some true) (h2 : PySem.W.isClsIn K S = true) (h3 : PySem.W.typeIn K (.ref S) = some (.type "type")) (h4 : PySem.W.subIn K (.ref S) (.ref S) = some true) :
    PySem.W.exmOne K (.ref S) (.ref S) = some true := by
  have e1 : (PySem.W.subIn K (.ref S) (.type "BaseException") == some true) = true := by rw [h1] <;> rfl
  have e2 : ((PySem.W.clsIn K S).isSome && PySem.W.typeIn K (.ref S) == some (.type "type")) = true := by
    have h2' : (PySem.W.clsIn K S).isSome = true := h2
    rw [h2', h3] <;> rfl
  show (if (PySem.W.subIn K (.ref S) (.type "BaseException") == some true) = true then (if ((PySem.W.clsIn K S).isSome && PySem.W.typeIn K (.ref S) == some (.type "type")) = true then PySem.W.subIn K (.ref S) (.ref S) else none) else none) = some true
  rw [if_pos e1, if_pos e2]
  exact h4
def tStop (t : TS) : TS := fun D σ H => t { D with nx := fun σ H => Stop (D.nx σ H) } σ H
theorem ps_stop {X : Cx} {st : Stmt} {t : TS} (h : PS X st t) : PS X st (tStop t) := by
  have e : tStop t = t := by
    funext D σ H
    unfold tStop
    simp only [stop_eq]
  rw [e]
  exact h
theorem lc_mapT {K : PySem.W.Frag} {a : Addr} {xs : List V} {g : TG} {te : TE} {vs : List Nat} {σ : L2.St} {H1 : Hp} {D : Addr} {Qd : Hp → Prop} (ys : List V) (ha : SqT K H1 a xs) (hD : H1 D = none) (hl : xs.length = ys.length) (hz : xs.length ≤ 10000)
    (hs : ∀ (i : Nat) (x y : V) (H' : Hp) (Q : VK), xs[i]? = some x → ys[i]? = some y → Same H1 H' → (∀ H'', Same H' H'' → Q y H'') → g x (wipe σ vs) H' fun σ2 H2 => wipe σ2 vs = wipe σ vs ∧ te σ2 H2 Q)
    (hd : ∀ H', Same H1 H' → H' D = some (.lst ys) → Qd H') :
    ∃ W : Nat → Nat → Hp → Prop, (∃ m, W 0 m (upd H1 D (.lst []))) ∧ ∀ i m H, W i m H →
      ((Itt K a).stop i H ∧ Qd H) ∨ ((Itt K a).go i H ∧ ∃ Nx : Hp → Prop, (∀ H', Nx H' → ∃ m', m' < m ∧ W (i + 1) m' H') ∧ ∀ x H', (Itt K a).yld i H x H' → g x (wipe σ vs) H' fun σ2 H2 => wipe σ2 vs = wipe σ vs ∧ tYes σ2 H2 fun b H3 =>
        if b = true then te σ2 H3 fun y H4 => ∃ acc, H4 D = some (.lst acc) ∧ acc.length < sizeLine ∧ Nx (upd H4 D (.lst (acc ++ [y]))) else Nx H3) := by
  refine lc_tup (xs := xs) (fun i H => Same H1 H ∧ H D = some (.lst (ys.take i))) ⟨same_upd hD, upd_same⟩ (fun i H _ h => ha.elim (fun r => r.elim (fun e => .inl (.inl (h.1 _ _ e))) (fun ⟨o, e⟩ => .inl (.inr ⟨o, h.1 _ _ e⟩))) .inr) (fun i x H hx h => ?_) (fun H h => hd H h.1 (by rw [h.2, List.take_of_length_le (by omega)]))
  have hi : i < ys.length := by have := (List.getElem?_eq_some_iff.mp hx).1; omega
  refine hs i x ys[i] H _ hx (List.getElem?_eq_getElem hi) h.1 (fun H'' s => ?_)
  refine ⟨ys.take i, s _ _ h.2, size_lt (by simp; omega), same_set (L2.Same.trans h.1 s) hD, ?_⟩
  rw [upd_same, List.take_add_one, List.getElem?_eq_getElem hi]; rfl
/-! ### two things of the same data -/
def FlatD (n : Nat) (d : PyData) : Prop := d.canLay0 = true ∧ d.depth ≤ n
theorem flat_all {n : Nat} : ∀ ds : List PyData, (∀ d ∈ ds, FlatD n d) → PyData.canLayAll0 ds = true ∧ PyData.depthAll ds ≤ n
  | [], _ => by simp [PyData.canLayAll0, PyData.depthAll]
  | d :: r, h => by
    have i := flat_all r fun x hx => h x (List.mem_cons_of_mem _ hx)
    have j := h d List.mem_cons_self
    unfold FlatD at j
    simp only [PyData.canLayAll0, PyData.depthAll, j.1, i.1, Bool.and_self, true_and]
    omega
theorem flat_list {n : Nat} {ds : List PyData} (h : ∀ d ∈ ds, FlatD n d) : FlatD (n + 1) (.list ds) := by
  have i := flat_all ds h
  exact ⟨by simp only [PyData.canLay0]; exact i.1, by simp only [PyData.depth]; omega⟩
theorem flat_tup {n : Nat} {ds : List PyData} (h : ∀ d ∈ ds, FlatD n d) : FlatD (n + 1) (.tuple ds) := by
  have i := flat_all ds h
  exact ⟨by simp only [PyData.canLay0]; exact i.1, by simp only [PyData.depth]; omega⟩
theorem flat_int (n : Nat) (i : Int) : FlatD n (.int i) := ⟨by simp [PyData.canLay0], by simp [PyData.depth]⟩
theorem flat_sh {n : Nat} {d : PyData} (h : FlatD n d) (hn : n ≤ 64 := by decide) : SeqAt.shaped d = true := by
  show (PyData.canLay0 d && decide (PyData.depth d ≤ 64)) = true
  rw [Bool.and_eq_true]
  exact ⟨h.1, decide_eq_true (Nat.le_trans h.2 hn)⟩
theorem op_eqS {X : Cx} (hu : X.A.units + 64 < cLine) : OpR X (compareOp .Eq) (fun x y H Q => ∃ d, Dp X.K H x d ∧ Dp X.K H y d ∧ SeqAt.shaped d = true ∧ Q (.bl true) H) := by
  intro pins s σ H x y v u Q I rx ry ⟨d, h1, h2, hs, k⟩
  refine op_eqD hu pins s σ H x y v u Q I rx ry ⟨d, d, h1, h2, hs, hs, ?_⟩
  rw [SeqAt.eqv_refl d (SeqAt.canLay_of_shaped hs)]; exact k
theorem op_neS {X : Cx} (hu : X.A.units + 64 < cLine) : OpR X (compareOp .NotEq) (fun x y H Q => ∃ d, Dp X.K H x d ∧ Dp X.K H y d ∧ SeqAt.shaped d = true ∧ Q (.bl false) H) := by
  intro pins s σ H x y v u Q I rx ry ⟨d, h1, h2, hs, k⟩
  refine op_neD hu pins s σ H x y v u Q I rx ry ⟨d, d, h1, h2, hs, hs, ?_⟩
  rw [SeqAt.eqv_refl d (SeqAt.canLay_of_shaped hs)]; exact k
/-- the only error's __init__: self.value = value -/
def spEI (C : Addr) : Sp := fun vs H Q _ => ∃ (a : Addr) (v : V), vs = [.ref a, v] ∧ H a = some (exo a C none) ∧ ∀ dx, H dx = none → dx ≠ a → Q .non (upd (upd H dx (exd dx [("value", v)])) a (exo a C (some dx)))
theorem ei_same {H : Hp} {a dx C : Addr} {fs : List (Str × V)} {o u : HO} (ha : H a = none) (hd : upd H a o dx = none) (ne : dx ≠ a) :
    Same H (upd (del (upd (upd (upd H a o) dx u) a (exo a C (some dx))) a) dx (.xd fs)) := fun b v e => by
  have n1 : b ≠ a := ne_of_none e ha
  have n2 : b ≠ dx := by
    intro z
    rw [z] at e
    rw [upd_ne ne] at hd
    rw [hd] at e
    cases e
  rw [upd_ne n2, del_ne n1, upd_ne n1, upd_ne n2, upd_ne n1]
  exact e
end Hx

set_option Elab.async false
set_option linter.all false
set_option maxRecDepth 100000
set_option maxHeartbeats 4000000
namespace Hx
open PySem PySem.Spec PyProof.Rows L2
/-! ### promises of defs under which no repr is under way -/
/-- as FnOk, for calls around which nothing is being written out -/
structure FnG (P : Program) (w : World) (K : PySem.W.Frag) (mg : Str → Option Value) (base : Heap) (k : Nat) (f : Addr) (fd : FuncData) (ps : List Str) (sp : Sp) : Prop where
  len : ∀ vs H Q E, sp vs H Q E → vs.length = ps.length
  run : ∀ (A : Around) (outer : List Env) (s : Shared) (H : Hp) (args : Args) (us : List Value) (vs : List V) (Q : VK) (E : XK), A.guards = some [] → Room k A → Env0 P w K mg base A outer s H → BindsTo s fd args (ps.zip us) → Vals vs us → sp vs H Q E →
    codeAny (model P w) A (.call (.ref f) args) (CR CX0 outer P w H s Q E) s
theorem FnG.mono {P : Program} {w : World} {K : PySem.W.Frag} {mg : Str → Option Value} {base : Heap} {j k : Nat} {f : Addr} {fd : FuncData} {ps : List Str} {sp : Sp} (F : FnG P w K mg base j f fd ps sp) (h : j ≤ k) : FnG P w K mg base k f fd ps sp :=
  ⟨F.len, fun A o s H a us vs Q E g r => F.run A o s H a us vs Q E g (r.mono h)⟩
theorem fnG {P : Program} {w : World} {K : PySem.W.Frag} {mg : Str → Option Value} {base : Heap} {x qual : Str} {st : Stmt} {f : Addr} {fd : FuncData} {N ps : List Str} {k : Nat} {sp : Sp} (F : Fun K x qual st f fd) (S : FnScope N ps (defScope st)) (len : ∀ vs H Q E, sp vs H Q E → vs.length = ps.length)
    (hbody : ∀ (cdv : Value) (A : Around) (outer : List Env) (s : Shared) (H : Hp) (vs : List V) (Q : VK) (E : XK), Room k (A.deeper (envOfC qual (defScope st) s.heap.objs.size f cdv)) → (A.deeper (envOfC qual (defScope st) s.heap.objs.size f cdv)).guards = some [] → sp vs H Q E →
      ∃ t, PSs (cxOf CX0 P w K mg base N qual (defScope st) f cdv A outer s H E).nox (defBody st) t ∧ t { nx := fun _ H' => Q .non H', rt := Q } (start N vs) H) : FnG P w K mg base (k + 1) f fd ps sp := by
  obtain ⟨oc, od, kV, doc, pm, an, cdv, ct, osl, rfl, lk, hcd⟩ := F.ex
  constructor
  · exact len
  intro A outer s H args us vs Q E hg hr e0 hb r hsp
  have old := fun b o e => (e0.bs b o e).1
  have KX := e0.mod.kin.keeps old
  have lim := e0.mod.nolimit.keeps old
  apply codeAny_call_function hr.depth (KX _ _ lk) rfl S.co S.gen rfl (PySem.W.codeRec_of KX hcd)
  apply hb
  apply wpAny_newFunctionEnv_cells S.kind
  · intro y hy
    exact (S.par y.1 (List.of_mem_zip hy).1).imp id fun q => ⟨q, PySem.W.cellsFrom_some _ _ _ (.inl q)⟩
  intro env he s1 x
  subst he
  refine ⟨lim.keeps x.toInCall.keep, codeAny_func ?_⟩
  obtain ⟨t, ht, hq⟩ := hbody cdv A outer s H vs Q E (hr.deeper _) hg hsp
  have I := inv_start (CX := CX0) (E := E) (base := base) S hr.hd e0 (len _ _ _ _ hsp) r x
  refine wpAny_mono (ht.nox.run [] s1 _ H _ I hq) (fun fl s' hs => ?_) fun e s' hs => hs
  match fl, hs with
  | .ret u, ⟨v, _, H', J, rv, q⟩ => exact ⟨v, H', J.os, J.bare, J.base, J.hok, rv, q⟩
  | .next, ⟨_, H', J, q⟩ => exact ⟨V.non, H', J.os, J.bare, J.base, J.hok, rfl, q⟩
  | .brk, ⟨_, _, _, q⟩ => exact q.elim
  | .cont, ⟨_, _, _, q⟩ => exact q.elim
section
variable {X : Cx} {k : Nat} {f : Addr} {fd : FuncData} {ps : List Str} {sp : Sp} {E : XK} {x : Str} {p pos : Pos} {e : Expr} {es : List Expr} {t : TA}
/-- f(e, ..) of such a def -/
theorem pe_callG (hu : X.A.guards = some []) (F : FnG X.prog X.w X.K X.mg X.base k f fd ps sp) (hr : Room k X.A) (hg : Gl X x) (hm : X.mg x = some (.ref f)) (hk : PySem.W.keepIn X.K (.ref f) = true) (hb : Binds X.K fd ps [])
    (ha : PA X (e :: es) t) (hdb : (x == ("__debug__" : Str)) = false := by decide) (he : starEach (e :: es) X.env = (false, eval e X.env) :: starEach es X.env := by rfl) (hpl : (backTo pos (starEach es X.env)).any (·.1) = false := by rfl) :
    PE X (.Call (.Name x p) (e :: es) [] pos) (tCall sp [] E t) := by
  constructor
  intro pins s σ H Q I h
  apply wpAny_Call_Name_kw (ld_glob I hg hm ?_ hdb)
  refine PySem.W.callWith_K (h₀ := X.base) I.ok.mod.kin hk (thn (ha.run pos pins s σ H _ I h) fun us s1 ⟨vs, H1, I1, r, q⟩ => ⟨I1.kIn, ?_⟩) he hpl
  have q : sp (vs ++ []) H1 Q E := q
  rw [List.append_nil] at q
  have hl : us.length = ps.length := by rw [← r.length]; exact F.len _ _ _ _ q
  have b := hb s1 us I1.kIn (by rw [List.append_nil]; exact hl)
  rw [List.append_nil] at b
  refine wpAny_call (codeAny_mono (F.run X.A X.stack s1 H1 ⟨us, []⟩ us vs Q E hu hr I1.env0 b r q) fun r s' hq => ?_)
  match r, hq with
  | .ok (.ret u), hq => exact I1.after hq
  | .error e, hq => exact False.elim hq
  | .ok .next, hq => exact False.elim hq
  | .ok .brk, hq => exact False.elim hq
  | .ok .cont, hq => exact False.elim hq
/-- repr of a list, a tuple, of things that show -/
theorem call_reprG (hg : X.A.guards = some []) (hr : Room 0 X.A) : CallR X (.builtin "repr") (fun xs H Q => ∃ (a : Addr) (d : PyData), xs = [.ref a] ∧ Dp X.K H (.ref a) d ∧ d.showable = true ∧ d.hasDict = false ∧ d.depth ≤ 64 ∧ d.shown.length ≤ sizeLine ∧ Q (.str d.shown) H) := by
  intro pins s σ H xs us Q I r h
  obtain ⟨a, d, rfl, hd, hs, hn, hp, hz, q⟩ := h
  rw [Vals.ref1 r]
  obtain ⟨as, hR⟩ := Dp.reads I d _ (.ref a) hd rfl
  have hu := hr.un
  exact repr_of_reads' hR hs (fun z => by rw [hn] at z; cases z) hg (by omega) (fun _ _ e => e) (fun h' u tk hk => ⟨.str _, H, I.kept hk, ⟨_, rfl⟩, q⟩) hz
end
theorem call_repr_bl {X : Cx} : CallR X (.builtin "repr") (fun xs H Q => ∃ b : Bool, xs = [.bl b] ∧ Q (.str (if b then "True" else "False")) H) := by
  intro pins s σ H xs us Q I r h
  obtain ⟨b, rfl, q⟩ := h
  cases r with
  | cons ru rn =>
    cases rn
    cases ru
    exact PySem.P.repr_of_bool ⟨.str _, H, I.tok _, ⟨_, rfl⟩, q⟩
/-! ### the head's call of such a law -/
theorem law_callG {P : Program} {w : World} {K : PySem.W.Frag} {mg mb : Str → Option Value} {k : Nat} {fa a : Addr} {fd : FuncData} {x : Str} {sp : Sp} {s : Shared} {vs : List Value} {ns : List Int}
    (KX : K.In s.heap) (hns : s.heap.Ns mainGlobals mg) (hb : s.heap.Ns builtinsNs mb) (hbb : ∀ x : Str, x ≠ "__name__" → mb x = bootBuiltins x) (hlim : s.heap.NoLimit) (hg : s.gens = #[])
    (ha : s.heap.get? a = some { cls := .type "list", data := .seq vs.toArray }) (hi : IntsAre vs ns) (hl : ns.length ≤ sizeLine) (hr : Room k callerA)
    (F : ∀ base : Heap, K.In base → base.Ns mainGlobals mg → FnG P w K mg base k fa fd [x] sp) (hbind : ∀ (s : Shared) (u : Value), BindsTo s fd ⟨[u], []⟩ [(x, u)])
    (hsp : ∀ H : Hp, Only H → SqL K H a (ns.map V.int) → sp [.ref a] H (fun v _ => v = .bl true) fun _ _ _ => False) :
    codeAny (model P w) callerA (.call (.ref fa) ⟨[.ref a], []⟩) (fun r s' => r = .ok (.ret (.bool true)) ∧ OldK s.heap s'.heap ∧ s'.os = s.os ∧ AllBare s'.gens) s := by
  let fz : HO := .frz { cls := .type "list", data := .seq vs.toArray } (.lst (ns.map V.int))
  let H : Hp := fun b => if b = a ∧ K.lookup a = none then some fz else none
  have rv := vals_ints hi
  have hH : ∀ {b : Addr} {u : HO}, H b = some u → b = a ∧ K.lookup a = none ∧ u = fz := fun {b u} z => by
    by_cases q : b = a ∧ K.lookup a = none
    · have z' := (if_pos q).symm.trans z
      exact ⟨q.1, q.2, (Option.some.inj z').symm⟩
    · have z' := (if_neg q).symm.trans z
      cases z'
  have hO : Only H := fun b => by
    by_cases q : b = a ∧ K.lookup a = none
    · exact .inr ⟨_, _, if_pos q⟩
    · exact .inl (if_neg q)
  have hok : HOk P w H s.heap := fun b u z => by
    obtain ⟨rfl, _, rfl⟩ := hH z
    exact ⟨ha, by rw [List.length_map]; exact hl, vs, _, rv, ha⟩
  have hS : SqL K H a (ns.map V.int) := by
    cases hk : K.lookup a with
    | some o =>
      have e := KX a o hk
      rw [ha] at e
      cases e
      exact .inr ⟨_, vs.toArray, _, hk, rfl, rfl, rfl, by rw [List.size_toArray, hi.length]; exact hl, by simpa using rv⟩
    | none => exact .inl (.inr ⟨_, if_pos ⟨rfl, hk⟩⟩)
  have hid : ∀ {b : Addr} {o : Obj}, s.heap.get? b = some o → (b = a → K.lookup a = none → False) → (hidT s.heap H).get? b = some o := fun {b o} e n => hidT_get e (by
    cases q : H b with
    | none => rfl
    | some u => exact (n (hH q).1 (hH q).2.1).elim)
  have nsK : ∀ {b : Addr} {m : Str → Option Value}, s.heap.Ns b m → (hidT s.heap H).Ns b m := fun {b m} ⟨o, es, ep, e, d, r⟩ => ⟨o, es, ep, hid e (fun z _ => by
    subst z
    rw [ha] at e
    cases e
    have d' : Data.seq vs.toArray _ = Data.dict es ep := d
    cases d'), d, r⟩
  have hKb : K.In (hidT s.heap H) := fun b o e => hid (KX b o e) fun z n => by
    subst z
    rw [n] at e
    cases e
  have e0 : Env0 P w K mg (hidT s.heap H) callerA [] s H := ⟨rfl, ⟨hKb, nsK hns, ⟨mb, nsK hb, hbb⟩, hlim.elim fun mc h => ⟨mc, nsK h.1, h.2⟩⟩, fun b o e => of_hidT e, Nat.le_of_eq (hidT_size _ _), trivial, fun b hb => absurd hb List.not_mem_nil, hok, .of_eq hg⟩
  refine codeAny_mono ((F _ hKb (nsK hns)).run callerA [] s H ⟨[.ref a], []⟩ [.ref a] [.ref a] _ _ rfl hr e0 (hbind s (.ref a)) (.cons rfl .nil) (hsp H hO hS)) fun r s' h => ?_
  match r, h with
  | .error e, h => exact h.elim
  | .ok .next, h => exact False.elim h
  | .ok .brk, h => exact False.elim h
  | .ok .cont, h => exact False.elim h
  | .ok (.ret u), ⟨v, H', os, bare, un, hok', r', q⟩ =>
    obtain rfl : v = .bl true := q
    obtain rfl : u = Value.bool true := r'
    refine ⟨rfl, OldK.of_keep fun b o e => ?_, os, bare⟩
    cases q : H b with
    | none => exact un.keep b o e q (fun z => List.not_mem_nil z) List.not_mem_nil
    | some u =>
      obtain ⟨rfl, _, rfl⟩ := hH q
      obtain ⟨e1, _⟩ := hok _ _ q
      obtain ⟨e2, _⟩ := hok' _ _ (un.frzs _ _ _ q)
      rw [e] at e1
      cases e1
      exact e2
theorem walk_ofG {l : PySem.W.OpenLaw} {n k : Nat} {q : Program} {loose : List Str} {XP : (Str → Option Value) → Heap → Prop} {YP : World → Heap → Prop} {d : DefRec} {K : Params → PySem.W.Frag} {sp : World → Sp} {x : Str}
    (hn : l.most = some n) (hn2 : n ≤ sizeLine) (hdf : d.params.defaults = []) (hr : Room k callerA)
    (hY : ∀ (w : World) (h : Heap), YP w h → (K w.params).In h)
    (F : ∀ (w : World) (mg : Str → Option Value) (fa : Addr) (h : Heap), (K w.params).In h → h.Ns mainGlobals mg → mg d.name = some (.ref fa) →
      ∃ fd : FuncData, (∀ (s : Shared) (u : Value), BindsTo s fd ⟨[u], []⟩ [(x, u)]) ∧ ∀ base : Heap, (K w.params).In base → base.Ns mainGlobals mg → FnG l.prog w (K w.params) mg base k fa fd [x] (sp w))
    (hsp : ∀ (w : World) (H : Hp) (a : Addr) (ns : List Int), ns.length ≤ n → Only H → SqL (K w.params) H a (ns.map V.int) → sp w [.ref a] H (fun v _ => v = .bl true) fun _ _ _ => False) :
    PySem.W.WalkO q loose XP YP l.row.toRowW d [] (fun f vs => PySem.call f vs) := by
  apply Att.attach_call hn hdf
  intro w s₀ s₁ mg mb fa o pm cd doc a vs ns G Y ho hd hcd hmg hobj hints hlen hg
  obtain ⟨fd, hb, hF⟩ := F w mg fa _ (hY w _ Y) G.T.g hmg
  exact law_callG (hY w _ Y) G.T.g G.T.b G.T.builtins G.T.nolimit hg hobj hints (Nat.le_trans hlen hn2) hr hF hb fun H hO hS => hsp w H a ns hlen hO hS
end Hx

set_option Elab.async false
set_option linter.all false
set_option maxRecDepth 100000
set_option maxHeartbeats 4000000
namespace Hx
open PySem PySem.Spec PyProof.Rows L2
/-- x == y by the class's own ==, whatever it answers -/
theorem op_eqOwn {X : Cx} {n : Nat} {C f : Addr} {fd : FuncData} {ps : List Str} {sp : Sp} (F : FnOk X.prog X.w X.K X.mg X.base CX0 n f fd ps sp) (hr : Room n X.A)
    (hs : PySem.W.findIn X.K (.ref C) "__eq__" = some (some (.ref f))) (hf : PySem.W.isFn X.K (.ref f) = true) (hb : Binds X.K fd ps []) :
    OpR X (compareOp .Eq) (fun x y H Q => ∃ a b dx dy fs gs, x = .ref a ∧ y = .ref b ∧ H a = some (.ins C dx fs) ∧ H b = some (.ins C dy gs) ∧ sp [.ref a, .ref b] H (fun v H' => ∃ c, v = .bl c ∧ Q (.bl c) H') (fun _ _ _ => False)) := by
  intro pins s σ H x y v u Q I rx ry h
  obtain ⟨a, b, dx, dy, fs, gs, rfl, rfl, ha, hb', hsp⟩ := h
  cases rx
  cases ry
  obtain ⟨mA, J, _⟩ := ins_get I.hok ha
  obtain ⟨mB, J', _⟩ := ins_get I.hok hb'
  obtain ⟨od, J, _⟩ := J.look
  obtain ⟨od', J', _⟩ := J'.look
  obtain ⟨m, hF⟩ := I.fr
  have hu := hr.un
  refine PySem.W.cmp_K (op := .Eq) (tb := .ref C) (by omega) hF I.ok.mod.kin J J'.type (by simp [PySem.W.notFirst]) hs hf ?_
  have hl := F.len _ _ _ _ hsp
  have r2 : Vals [V.ref a, V.ref b] [Value.ref a, Value.ref b] := .cons rfl (.cons rfl .nil)
  have hB : BindsTo s fd ⟨[.ref a, .ref b], []⟩ (ps.zip [.ref a, .ref b]) := by
    have := hb s [.ref a, .ref b] I.kIn (by simpa using hl)
    simpa using this
  refine wpAny_call (codeAny_mono (F.run X.A X.stack s H ⟨[.ref a, .ref b], []⟩ [.ref a, .ref b] [.ref a, .ref b] _ _ hr I.env0 hB r2 hsp) fun r s' hq => ?_)
  match r, hq with
  | .ok (.ret w), hq =>
    obtain ⟨z, H', I', rz, c, rfl, q⟩ := I.after hq
    cases rz
    exact ⟨.bl c, H', I', rfl, q⟩
  | .error e, hq => exact False.elim hq
  | .ok .next, hq => exact False.elim hq
  | .ok .brk, hq => exact False.elim hq
  | .ok .cont, hq => exact False.elim hq
/-! ### how long the text of whole numbers is -/
theorem text_le : ∀ (ts : List Str) (k : Nat) (acc : Str), (textFrom k acc ts).length ≤ acc.length + piled ts
  | [], _, acc => Nat.le_add_right _ _
  | t :: r, k, acc => by
    have ih := text_le r (k + 1) (acc ++ (if k > 0 then ", " else "" : String) ++ t)
    have e : (acc ++ (if k > 0 then ", " else "" : String) ++ t).length ≤ acc.length + 2 + t.length := by
      rw [strLen_append, strLen_append]
      split
      · exact Nat.le_refl _
      · exact Nat.add_le_add_right (Nat.add_le_add_left (Nat.zero_le 2) _) _
    show (textFrom (k + 1) _ r).length ≤ _
    rw [piled_cons]; omega
theorem piled_words : ∀ ns : List Int, (∀ n ∈ ns, 0 ≤ n ∧ n < 10 ^ 20) → piled (PyData.shownAll (ns.map PyData.int)) ≤ 22 * ns.length
  | [], _ => Nat.le_refl _
  | n :: r, h => by
    have i := piled_words r fun x hx => h x (List.mem_cons_of_mem _ hx)
    have j := toString_length_le (h n List.mem_cons_self).1 (by decide : 0 < 20) (h n List.mem_cons_self).2
    rw [List.map_cons, PyData.shownAll, piled_cons, PyData.shown, List.length_cons]
    omega
theorem words_dict : ∀ ns : List Int, PyData.hasDictAll (ns.map PyData.int) = false
  | [] => rfl
  | n :: r => by rw [List.map_cons, PyData.hasDictAll, PyData.hasDict, words_dict r] <;> rfl
theorem log_small {n : Int} (h : 0 ≤ n ∧ n < 10 ^ 20) : n.natAbs.log2 < 1920 := by
  by_cases z : n.natAbs = 0
  · rw [z]; decide
  · refine Nat.lt_trans (m := 67) ?_ (by decide)
    rw [Nat.log2_lt z]
    omega
theorem words_show : ∀ ns : List Int, (∀ n ∈ ns, 0 ≤ n ∧ n < 10 ^ 20) → PyData.showableAll (ns.map PyData.int) = true
  | [], _ => rfl
  | n :: r, h => by
    rw [List.map_cons, PyData.showableAll, PyData.showable, words_show r fun x hx => h x (List.mem_cons_of_mem _ hx), decide_eq_true (log_small (h n List.mem_cons_self))] <;> rfl
theorem words_depth : ∀ ns : List Int, PyData.depthAll (ns.map PyData.int) = 0
  | [] => by simp [PyData.depthAll]
  | n :: r => by simp [PyData.depthAll, PyData.depth, words_depth r]
/-- a list of words: all that repr asks -/
theorem shown_words {ns : List Int} (h : ∀ n ∈ ns, 0 ≤ n ∧ n < 10 ^ 20) (hl : ns.length ≤ 400) : (PyData.list (ns.map PyData.int)).showable = true ∧ (PyData.list (ns.map PyData.int)).hasDict = false ∧ (PyData.list (ns.map PyData.int)).depth ≤ 64 ∧ (PyData.list (ns.map PyData.int)).shown.length ≤ sizeLine := by
  refine ⟨by rw [PyData.showable]; exact words_show ns h, by rw [PyData.hasDict]; exact words_dict ns, by rw [PyData.depth, words_depth]; decide, ?_⟩
  rw [PyData.shown]
  have a := text_le (PyData.shownAll (ns.map PyData.int)) 0 "["
  have b := piled_words ns h
  show (textFrom 0 "[" _ ++ "]").length ≤ _
  rw [strLen_append, sizeLine_eq]
  have e : (("[" : String) : Str).length = 1 := rfl
  have e2 : (("]" : String) : Str).length = 1 := rfl
  rw [e] at a
  rw [e2]
  omega
/-! ### o.m(b=.., a=..) of two, in the other sequence -/
def kwR {α : Type} (us ws : List α) : List α := match us, ws with | [x], [b, a] => [x, a, b] | _, _ => []
theorem kw_bindsR {K : PySem.W.Frag} {x qual : Str} {st : Stmt} {f : Addr} {fd : FuncData} {ps : List Str} {p0 p1 p2 : Str} (F : Fun K x qual st f fd) (hp : ps = [p0, p1, p2])
    (h : ∀ (kV doc pm : Value) (an : Option Addr) (cdv ct : Value) (u a b : Value), bindArgs (PySem.W.fnOf x qual (defArgs st) (defBody st) (defScope st) .none kV doc pm an cdv ct) ⟨[u], [(p2, b), (p1, a)]⟩ = pure [(p0, u), (p1, a), (p2, b)]) : KBinds K fd ps [p2, p1] kwR kwR := by
  obtain ⟨oc, od, kV, doc, pm, an, cdv, ct, osl, rfl, lk, hcd⟩ := F.ex
  subst hp
  refine ⟨fun s us ws _ hl => ?_, fun {vs us zs ws} r1 r2 => ?_⟩
  · match us, ws, hl with
    | [u], [b, a], _ => exact .of_eq (h kV doc pm an cdv ct u a b)
    | [], _, hl => simp [kwR] at hl
    | [_], [], hl => simp [kwR] at hl
    | [_], [_], hl => simp [kwR] at hl
    | [_], _ :: _ :: _ :: _, hl => simp [kwR] at hl
    | _ :: _ :: _, _, hl => simp [kwR] at hl
  · cases r1 with
    | nil => exact .nil
    | cons a t =>
      cases t with
      | cons b t => exact .nil
      | nil =>
        cases r2 with
        | nil => exact .nil
        | cons b r2 =>
          cases r2 with
          | nil => exact .nil
          | cons c r2 =>
            cases r2 with
            | nil => exact .cons a (.cons c (.cons b .nil))
            | cons _ _ => exact .nil
/-! ### a list of ints beside the empty one -/
theorem eqv_nil (ns : List Int) : PyData.eqv (.list (ns.map PyData.int)) (.list []) = ns.isEmpty := by
  cases ns with
  | nil => exact eqv_ints []
  | cons a r => simp [PyData.eqv, PyData.eqvAll]
theorem op_neNil {X : Cx} (hu : X.A.units + 64 < cLine) : OpR X (compareOp .NotEq) (fun x y H Q => ∃ (p q : Addr) (ns : List Int), x = .ref p ∧ y = .ref q ∧ SqL X.K H p (ns.map V.int) ∧ SqL X.K H q [] ∧ Q (.bl (!ns.isEmpty)) H) := by
  intro pins s σ H x y v u Q I rx ry ⟨p, q, ns, e1, e2, h1, h2, k⟩
  refine op_neD hu pins s σ H x y v u Q I rx ry ⟨.list (ns.map PyData.int), .list [], ?_, ?_, ?_, ?_, ?_⟩
  · rw [e1]; exact .lst h1 (dp_ints ns)
  · rw [e2]; exact .lst h2 .nil
  · exact sh_ints ns
  · exact sh_ints []
  · rw [eqv_nil]; exact k
end Hx

set_option Elab.async false
set_option linter.all false
set_option maxRecDepth 100000
set_option maxHeartbeats 4000000
namespace Hx
open PySem PySem.Spec PyProof.Rows L2
/-! ### lists of pairs of ints; things of the same data in a grown heap -/
def rowD (r : Int × Int) : PyData := .tuple [.int r.1, .int r.2]
def rowsD (rs : List (Int × Int)) : PyData := .list (rs.map rowD)
theorem dp_rows {K : PySem.W.Frag} {H : Hp} : ∀ (ts : List Addr) (rs : List (Int × Int)), ts.length = rs.length → (∀ (i : Nat) (t : Addr) (r : Int × Int), ts[i]? = some t → rs[i]? = some r → H t = some (.tup [.int r.1, .int r.2])) → DpAll K H (ts.map V.ref) (rs.map rowD)
  | [], [], _, _ => .nil
  | t :: ts, r :: rs, hl, h => .cons (.tup (SqT.of (h 0 t r rfl rfl)) (.cons (.int _) (.cons (.int _) .nil))) (dp_rows ts rs (by simpa using hl) fun i t' r' h1 h2 => h (i + 1) t' r' (by simpa using h1) (by simpa using h2))
  | [], _ :: _, hl, _ => by simp at hl
  | _ :: _, [], hl, _ => by simp at hl
theorem rows_sh (rs : List (Int × Int)) : SeqAt.shaped (rowsD rs) = true := flat_sh (n := 2) (flat_list (n := 1) fun d hd => by
  obtain ⟨r, _, rfl⟩ := List.mem_map.mp hd
  exact flat_tup (n := 0) fun d hd => by
    simp at hd
    rcases hd with rfl | rfl <;> exact flat_int 0 _)
theorem sqt_same {K : PySem.W.Frag} {H H' : Hp} {a : Addr} {xs : List V} (s : Same H H') (h : SqT K H a xs) : SqT K H' a xs := h.elim (fun r => r.elim (fun e => .inl (.inl (s _ _ e))) (fun ⟨o, e⟩ => .inl (.inr ⟨o, s _ _ e⟩))) .inr
mutual
theorem dp_same {K : PySem.W.Frag} {H H' : Hp} (s : Same H H') : ∀ (d : PyData) (v : V), Dp K H v d → Dp K H' v d
  | .none, _, h => by cases h; exact .non
  | .bool b, _, h => by cases h; exact .bl b
  | .int i, _, h => by cases h; exact .int i
  | .str x, _, h => by cases h; exact .str x
  | .list ds, _, h => by cases h with | lst h1 h2 => exact .lst (L2.Same.seq s h1) (dpA_same s ds _ h2)
  | .tuple ds, _, h => by cases h with | tup h1 h2 => exact .tup (sqt_same s h1) (dpA_same s ds _ h2)
  | .dict _, _, h => by cases h
theorem dpA_same {K : PySem.W.Frag} {H H' : Hp} (s : Same H H') : ∀ (ds : List PyData) (vs : List V), DpAll K H vs ds → DpAll K H' vs ds
  | [], _, h => by cases h; exact .nil
  | d :: ds, _, h => by cases h with | cons h1 h2 => exact .cons (dp_same s d _ h1) (dpA_same s ds _ h2)
end
end Hx

set_option Elab.async false
set_option linter.all false
set_option maxRecDepth 100000
set_option maxHeartbeats 4000000
namespace Hx
open PySem PySem.Spec PyProof.Rows L2
/-! ### keywords in any sequence: n values by place, then those of the permutation -/
def kwP {α : Type} (n : Nat) (perm : List Nat) (us ws : List α) : List α := if us.length = n ∧ ws.length = perm.length then us ++ perm.filterMap (fun i => ws[i]?) else []
theorem vals_append {a b : List V} {x y : List Value} (h : Vals a x) (k : Vals b y) : Vals (a ++ b) (x ++ y) := by
  induction h with
  | nil => exact k
  | cons r t ih => exact .cons r ih
theorem vals_get {a : List V} {x : List Value} (h : Vals a x) : ∀ i : Nat, (∃ v u, a[i]? = some v ∧ x[i]? = some u ∧ RelV v u) ∨ (a[i]? = none ∧ x[i]? = none) := by
  induction h with
  | nil => exact fun i => .inr ⟨by simp, by simp⟩
  | cons r t ih =>
    intro i
    cases i with
    | zero => exact .inl ⟨_, _, rfl, rfl, r⟩
    | succ j => simpa using ih j
theorem vals_perm {a : List V} {x : List Value} (h : Vals a x) : ∀ perm : List Nat, Vals (perm.filterMap (fun i => a[i]?)) (perm.filterMap (fun i => x[i]?))
  | [] => .nil
  | i :: r => by
    have t := vals_perm h r
    rcases vals_get h i with ⟨v, u, e1, e2, q⟩ | ⟨e1, e2⟩
    · rw [List.filterMap_cons, List.filterMap_cons, e1, e2]; exact .cons q t
    · rw [List.filterMap_cons, List.filterMap_cons, e1, e2]; exact t
theorem vals_kwP {n : Nat} {perm : List Nat} {vs zs : List V} {us ws : List Value} (h : Vals vs us) (k : Vals zs ws) : Vals (kwP n perm vs zs) (kwP n perm us ws) := by
  unfold kwP
  rw [h.length, k.length]
  split
  · exact vals_append h (vals_perm k perm)
  · exact .nil
theorem kw_bindsP {K : PySem.W.Frag} {x qual : Str} {st : Stmt} {f : Addr} {fd : FuncData} {ps ks : List Str} {n : Nat} {perm : List Nat} (F : Fun K x qual st f fd) (h0 : 0 < ps.length)
    (h : ∀ (kV doc pm : Value) (an : Option Addr) (cdv ct : Value) (us ws : List Value), us.length = n → ws.length = perm.length → bindArgs (PySem.W.fnOf x qual (defArgs st) (defBody st) (defScope st) .none kV doc pm an cdv ct) ⟨us, ks.zip ws⟩ = pure (ps.zip (kwP n perm us ws))) : KBinds K fd ps ks (kwP n perm) (kwP n perm) := by
  obtain ⟨oc, od, kV, doc, pm, an, cdv, ct, osl, rfl, lk, hcd⟩ := F.ex
  refine ⟨fun s us ws _ hl => ?_, fun r1 r2 => vals_kwP r1 r2⟩
  by_cases q : us.length = n ∧ ws.length = perm.length
  · exact .of_eq (h kV doc pm an cdv ct us ws q.1 q.2)
  · unfold kwP at hl; rw [if_neg q] at hl; simp at hl; omega
theorem kw_bindsN {K : PySem.W.Frag} {x qual : Str} {st : Stmt} {f : Addr} {fd : FuncData} {ps ks : List Str} {n : Nat} {perm : List Nat} (F : Fun K x qual st f fd) (h0 : ks.length = perm.length)
    (h : ∀ (kV doc pm : Value) (an : Option Addr) (cdv ct : Value) (us ws : List Value), us.length = n → ws.length = perm.length → bindArgs (PySem.W.fnOf x qual (defArgs st) (defBody st) (defScope st) .none kV doc pm an cdv ct) ⟨us, ks.zip ws⟩ = pure (ps.zip (kwP n perm us ws))) : KBn K fd ps n ks (kwP n perm) (kwP n perm) := by
  obtain ⟨oc, od, kV, doc, pm, an, cdv, ct, osl, rfl, lk, hcd⟩ := F.ex
  exact ⟨fun s us ws _ l1 l2 => .of_eq (h kV doc pm an cdv ct us ws l1 (l2.trans h0)), fun r1 r2 => vals_kwP r1 r2⟩
/-! ### an own == beside a list -/
theorem op_eqOwnL {X : Cx} {n : Nat} {C f : Addr} {fd : FuncData} {ps : List Str} {sp : Sp} (F : FnOk X.prog X.w X.K X.mg X.base CX0 n f fd ps sp) (hr : Room n X.A)
    (hs : PySem.W.findIn X.K (.ref C) "__eq__" = some (some (.ref f))) (hf : PySem.W.isFn X.K (.ref f) = true) (hb : Binds X.K fd ps []) (hsl : PySem.W.subIn X.K (.type "list") (.ref C) = some false) :
    OpR X (compareOp .Eq) (fun x y H Q => ∃ a b dx fs xs, x = .ref a ∧ y = .ref b ∧ H a = some (.ins C dx fs) ∧ H b = some (.lst xs) ∧ sp [.ref a, .ref b] H (fun v H' => ∃ c, v = .bl c ∧ Q (.bl c) H') (fun _ _ _ => False)) := by
  intro pins s σ H x y v u Q I rx ry h
  obtain ⟨a, b, dx, fs, xs, rfl, rfl, ha, hb', hsp⟩ := h
  cases rx
  cases ry
  obtain ⟨mA, J, _⟩ := ins_get I.hok ha
  obtain ⟨od, J, _⟩ := J.look
  obtain ⟨_, _, nn, _, h1⟩ := (show ObjOk X.prog X.w H s.heap b (.lst xs) from I.hok b _ hb')
  obtain ⟨m, hF⟩ := I.fr
  have hu := hr.un
  refine PySem.W.cmp_K (op := .Eq) (tb := .type "list") (by omega) hF I.ok.mod.kin J (fun A Q E s k q => wpAny_typeOf_ref (k _ _ h1) q) (by simp [PySem.W.notFirst, hsl]) hs hf ?_
  have hl := F.len _ _ _ _ hsp
  have r2 : Vals [V.ref a, V.ref b] [Value.ref a, Value.ref b] := .cons rfl (.cons rfl .nil)
  have hB : BindsTo s fd ⟨[.ref a, .ref b], []⟩ (ps.zip [.ref a, .ref b]) := by
    have := hb s [.ref a, .ref b] I.kIn (by simpa using hl)
    simpa using this
  refine wpAny_call (codeAny_mono (F.run X.A X.stack s H ⟨[.ref a, .ref b], []⟩ [.ref a, .ref b] [.ref a, .ref b] _ _ hr I.env0 hB r2 hsp) fun r s' hq => ?_)
  match r, hq with
  | .ok (.ret w), hq =>
    obtain ⟨z, H', I', rz, c, rfl, q⟩ := I.after hq
    cases rz
    exact ⟨.bl c, H', I', rfl, q⟩
  | .error e, hq => exact False.elim hq
  | .ok .next, hq => exact False.elim hq
  | .ok .brk, hq => exact False.elim hq
  | .ok .cont, hq => exact False.elim hq
theorem kit_not {K : PySem.W.Frag} {C : Addr} (h1 : PySem.W.isClsIn K C = true) (h2 : PySem.W.typeIn K (.ref C) = some (.type "type")) (h3 : PySem.W.subIn K (.type "list") (.ref C) = some false) : PySem.W.kitOne K (.type "list") (.ref C) = some false := by
  have e : ((PySem.W.clsIn K C).isSome && PySem.W.typeIn K (.ref C) == some (.type "type")) = true := by
    have h1' : (PySem.W.clsIn K C).isSome = true := h1
    rw [h1', h2] <;> rfl
  show (if ((Value.type "list" == .ref C) = true) then some true else (if ((PySem.W.clsIn K C).isSome && PySem.W.typeIn K (.ref C) == some (.type "type")) = true then PySem.W.subIn K (.type "list") (.ref C) else none)) = some false
  rw [if_neg (by intro z; cases z), if_pos e]
  exact h3
/-! ### a comprehension that sifts -/
theorem lc_filt {α : Type} {K : PySem.W.Frag} {a : Addr} {g : TG} {tt : TT} {te : TE} {vs : List Nat} {σ : L2.St} {H1 : Hp} {D : Addr} {Qd : Hp → Prop} (zs : List α) (f : α → V) (t : α → Bool) (ha : SqL K H1 a (zs.map f)) (hD : H1 D = none) (hz : zs.length ≤ 10000)
    (hs : ∀ (i : Nat) (z : α) (H' : Hp) (Qn : Hp → Prop) (Qy : VK), zs[i]? = some z → Same H1 H' → (t z = false → ∀ H'', Same H' H'' → Qn H'') → (t z = true → ∀ H'', Same H' H'' → Qy (f z) H'') → g (f z) (wipe σ vs) H' fun σ2 H2 => wipe σ2 vs = wipe σ vs ∧ tt σ2 H2 fun b H3 => if b = true then te σ2 H3 Qy else Qn H3)
    (hd : ∀ H', Same H1 H' → H' D = some (.lst ((zs.filter t).map f)) → Qd H') :
    ∃ W : Nat → Nat → Hp → Prop, (∃ m, W 0 m (upd H1 D (.lst []))) ∧ ∀ i m H, W i m H →
      ((Itl K a).stop i H ∧ Qd H) ∨ ((Itl K a).go i H ∧ ∃ Nx : Hp → Prop, (∀ H', Nx H' → ∃ m', m' < m ∧ W (i + 1) m' H') ∧ ∀ x H', (Itl K a).yld i H x H' → g x (wipe σ vs) H' fun σ2 H2 => wipe σ2 vs = wipe σ vs ∧ tt σ2 H2 fun b H3 =>
        if b = true then te σ2 H3 fun y H4 => ∃ acc, H4 D = some (.lst acc) ∧ acc.length < sizeLine ∧ Nx (upd H4 D (.lst (acc ++ [y]))) else Nx H3) := by
  refine lc_list (xs := zs.map f) (fun i H => Same H1 H ∧ H D = some (.lst (((zs.take i).filter t).map f))) ⟨same_upd hD, upd_same⟩ (fun i H _ h => L2.Same.seq h.1 ha) (fun i x H hx h => ?_) (fun H h => hd H h.1 (by rw [h.2, List.length_map, List.take_length]))
  rw [List.getElem?_map] at hx
  obtain ⟨z, hz1, rfl⟩ := Option.map_eq_some_iff.mp hx
  have et : zs.take (i + 1) = zs.take i ++ [z] := by rw [List.take_add_one, hz1]; rfl
  refine hs i z H _ _ hz1 h.1 (fun tn H'' s => ?_) (fun ty H'' s => ?_)
  · refine ⟨L2.Same.trans h.1 s, ?_⟩
    rw [s _ _ h.2, et, List.filter_append, List.filter_cons_of_neg (by simp [tn]), List.filter_nil, List.append_nil]
  · refine ⟨((zs.take i).filter t).map f, s _ _ h.2, size_lt ?_, same_set (L2.Same.trans h.1 s) hD, ?_⟩
    · have := List.length_filter_le t (zs.take i)
      simp at this ⊢; omega
    · rw [upd_same, et, List.filter_append, List.filter_cons_of_pos ty, List.filter_nil, List.map_append]; rfl
/-! ### parts of a list -/
theorem cut_from (xs : List V) (k : Nat) : cutV xs (some (k : Int)) none = xs.drop k := by
  unfold cutV
  rw [HT.sIx_nat, HT.sIx_none, List.take_of_length_le (by rw [List.length_drop]; omega)]
  by_cases h : k ≤ xs.length
  · rw [Nat.min_eq_left h]
  · rw [Nat.min_eq_right (by omega), List.drop_length, List.drop_of_length_le (by omega)]
theorem cut_to (xs : List V) (k : Nat) : cutV xs none (some (k : Int)) = xs.take k := by
  unfold cutV
  rw [HT.sIx_nat, HT.sIx_none, List.drop_zero, Nat.sub_zero]
  by_cases h : k ≤ xs.length
  · rw [Nat.min_eq_left h]
  · rw [Nat.min_eq_right (by omega), List.take_length, List.take_of_length_le (by omega)]
/-! ### a list beside the empty one -/
theorem eqv_nilD (ds : List PyData) : PyData.eqv (.list ds) (.list []) = ds.isEmpty := by
  cases ds with
  | nil => rfl
  | cons a r => simp [PyData.eqv, PyData.eqvAll]
end Hx

set_option Elab.async false
set_option linter.all false
set_option maxRecDepth 100000
set_option maxHeartbeats 4000000
namespace Hx
open PySem PySem.Spec PyProof.Rows L2
/-! ### a list or a tuple -/
def Sq (K : PySem.W.Frag) (H : Hp) (a : Addr) (xs : List V) : Prop := H a = some (.lst xs) ∨ H a = some (.tup xs)
theorem Sq.same {K : PySem.W.Frag} {H H' : Hp} {a : Addr} {xs : List V} (s : Same H H') (h : Sq K H a xs) : Sq K H' a xs := h.imp (s _ _) (s _ _)
theorem Sq.or {K : PySem.W.Frag} {H : Hp} {a : Addr} {xs : List V} (h : Sq K H a xs) : SqL K H a xs ∨ SqT K H a xs := h.imp SqL.of SqT.of
def rIxB (K : PySem.W.Frag) : R2 := fun x y H Q => ∃ p xs i v, x = .ref p ∧ y = .int i ∧ Sq K H p xs ∧ atI xs i = some v ∧ Q v H
theorem ix_both {X : Cx} : IxR X (rIxB X.K) := by
  intro value slice pins s σ H x y v u Q I rx ry h hs
  obtain ⟨p, xs, i, z, rfl, rfl, hq, he, q⟩ := h
  rcases hq with hq | hq
  · exact ix_list value slice pins s σ H _ _ v u Q I rx ry ⟨p, xs, i, z, rfl, rfl, SqL.of hq, he, q⟩ hs
  · exact ix_tup value slice pins s σ H _ _ v u Q I rx ry ⟨p, xs, i, z, rfl, rfl, SqT.of hq, he, q⟩ hs
/-! ### texts of a few bools -/
theorem shown_bools (bs : List Bool) (hl : bs.length ≤ 400) : (PyData.list (bs.map PyData.bool)).showable = true ∧ (PyData.list (bs.map PyData.bool)).hasDict = false ∧ (PyData.list (bs.map PyData.bool)).depth ≤ 64 ∧ (PyData.list (bs.map PyData.bool)).shown.length ≤ sizeLine := by
  have h1 : ∀ bs : List Bool, PyData.showableAll (bs.map PyData.bool) = true := fun bs => by
    induction bs with
    | nil => rfl
    | cons b r ih => rw [List.map_cons, PyData.showableAll, PyData.showable, ih] <;> rfl
  have h2 : ∀ bs : List Bool, PyData.hasDictAll (bs.map PyData.bool) = false := fun bs => by
    induction bs with
    | nil => rfl
    | cons b r ih => rw [List.map_cons, PyData.hasDictAll, PyData.hasDict, ih] <;> rfl
  have h3 : ∀ bs : List Bool, PyData.depthAll (bs.map PyData.bool) = 0 := fun bs => by
    induction bs with
    | nil => simp [PyData.depthAll]
    | cons b r ih => simp [PyData.depthAll, PyData.depth, ih]
  have h4 : ∀ bs : List Bool, piled (PyData.shownAll (bs.map PyData.bool)) ≤ 22 * bs.length := fun bs => by
    induction bs with
    | nil => exact Nat.le_refl _
    | cons b r ih =>
      have e : (PyData.shown (.bool b)).length ≤ 5 := by cases b <;> decide
      rw [List.map_cons, PyData.shownAll, piled_cons, List.length_cons]
      omega
  refine ⟨by rw [PyData.showable]; exact h1 bs, by rw [PyData.hasDict]; exact h2 bs, by rw [PyData.depth, h3]; decide, ?_⟩
  rw [PyData.shown]
  have a := text_le (PyData.shownAll (bs.map PyData.bool)) 0 "["
  have b := h4 bs
  show (textFrom 0 "[" _ ++ "]").length ≤ _
  rw [strLen_append, sizeLine_eq]
  have e : (("[" : String) : Str).length = 1 := rfl
  have e2 : (("]" : String) : Str).length = 1 := rfl
  rw [e] at a
  rw [e2]
  omega
theorem dp_bools {K : PySem.W.Frag} {H : Hp} : ∀ bs : List Bool, DpAll K H (bs.map V.bl) (bs.map PyData.bool)
  | [] => .nil
  | b :: r => .cons (.bl b) (dp_bools r)
end Hx

set_option Elab.async false
set_option linter.all false
set_option maxRecDepth 100000
set_option maxHeartbeats 4000000
/-! HsSep: what is owned of a heap, as a list; a part of the heap that never changes; frames. -/
namespace L2
open PySem PySem.Spec PyProof.Rows
variable {K : PySem.W.Frag}
theorem DpAll.app' {M : Hp} : ∀ {vs us : List V} {ds es : List PyData}, DpAll K M vs ds → DpAll K M us es → DpAll K M (vs ++ us) (ds ++ es)
  | _, _, _, _, .nil, y => y
  | _, _, _, _, .cons x z, y => .cons x (DpAll.app' z y)
theorem DpAll.get {M : Hp} : ∀ {vs : List V} {ds : List PyData} {i : Nat} {v : V}, DpAll K M vs ds → vs[i]? = some v → ∃ d, ds[i]? = some d ∧ Dp K M v d
  | _, _, _, _, .nil, e => by simp at e
  | _, _, 0, _, .cons x _, e => by simp at e; subst e; exact ⟨_, rfl, x⟩
  | _, _, i + 1, v, .cons _ y, e => by
    obtain ⟨d, h1, h2⟩ := DpAll.get (i := i) (v := v) y (by simpa using e)
    exact ⟨d, by simpa using h1, h2⟩
theorem DpAll.get' {M : Hp} : ∀ {vs : List V} {ds : List PyData} {i : Nat} {v : V} {d : PyData}, DpAll K M vs ds → vs[i]? = some v → ds[i]? = some d → Dp K M v d := fun h e1 e2 => by
  obtain ⟨d', h1, h2⟩ := h.get e1
  rw [e2] at h1; cases h1; exact h2
theorem DpAll.len {M : Hp} : ∀ {vs : List V} {ds : List PyData}, DpAll K M vs ds → vs.length = ds.length
  | _, _, .nil => rfl
  | _, _, .cons _ y => by simp [DpAll.len y]
theorem DpAll.take {M : Hp} : ∀ {vs : List V} {ds : List PyData} (n : Nat), DpAll K M vs ds → DpAll K M (vs.take n) (ds.take n)
  | _, _, 0, _ => by simpa using DpAll.nil
  | _, _, _ + 1, .nil => by simpa using DpAll.nil
  | _, _, n + 1, .cons x y => by simpa using DpAll.cons x (DpAll.take n y)
theorem DpAll.drop {M : Hp} : ∀ {vs : List V} {ds : List PyData} (n : Nat), DpAll K M vs ds → DpAll K M (vs.drop n) (ds.drop n)
  | _, _, 0, h => by simpa using h
  | _, _, _ + 1, .nil => by simpa using DpAll.nil
  | _, _, n + 1, .cons _ y => by simpa using DpAll.drop n y
theorem DpAll.set {M : Hp} {v : V} {d : PyData} (x : Dp K M v d) : ∀ {vs : List V} {ds : List PyData} (n : Nat), DpAll K M vs ds → DpAll K M (vs.set n v) (ds.set n d)
  | _, _, _, .nil => by simpa using DpAll.nil
  | _, _, 0, .cons _ y => by simpa using DpAll.cons x y
  | _, _, n + 1, .cons z y => by simpa using DpAll.cons z (DpAll.set x n y)
theorem DpAll.erase {M : Hp} : ∀ {vs : List V} {ds : List PyData} (n : Nat), DpAll K M vs ds → DpAll K M (vs.eraseIdx n) (ds.eraseIdx n)
  | _, _, _, .nil => by simpa using DpAll.nil
  | _, _, 0, .cons _ y => by simpa using y
  | _, _, n + 1, .cons x y => by simpa using DpAll.cons x (DpAll.erase n y)
theorem DpAll.dropLast {M : Hp} {vs : List V} {ds : List PyData} (h : DpAll K M vs ds) : DpAll K M vs.dropLast ds.dropLast := by
  rw [List.dropLast_eq_take, List.dropLast_eq_take, h.len]; exact h.take _
theorem DpAll.rev {M : Hp} : ∀ {vs : List V} {ds : List PyData}, DpAll K M vs ds → DpAll K M vs.reverse ds.reverse
  | _, _, .nil => .nil
  | _, _, .cons x y => by rw [List.reverse_cons, List.reverse_cons]; exact DpAll.app' (DpAll.rev y) (.cons x .nil)
end L2
namespace Hx
open PySem PySem.Spec PyProof.Rows L2
/-- what stands at an owned address -/
inductive Ob where
  | raw (o : HO)
  | such (φ : HO → Prop)
  | L (ds : List PyData)
  | D (kds : List (Key × PyData))
/-- M: the part that never changes -/
def Hd (K : PySem.W.Frag) (M H : Hp) (a : Addr) : Ob → Prop
  | .raw o => H a = some o
  | .such φ => ∃ o, H a = some o ∧ φ o
  | .L ds => ∃ vs, H a = some (.lst vs) ∧ DpAll K M vs ds
  | .D kds => ∃ kvs : List (Key × V), H a = some (.dK kvs) ∧ kvs.map Prod.fst = kds.map Prod.fst ∧ DpAll K M (kvs.map Prod.snd) (kds.map Prod.snd)
/-- what is known of the part that never changes -/
inductive Pf where
  | tup (t : Addr) (vs : List V)
  | lst (t : Addr) (vs : List V)
  | dp (vs : List V) (ds : List PyData)
  | sq (t : Addr) (vs : List V)
def Pf.ok (K : PySem.W.Frag) (M : Hp) : Pf → Prop
  | .tup t vs => M t = some (.tup vs)
  | .lst t vs => M t = some (.lst vs)
  | .dp vs ds => DpAll K M vs ds
  | .sq t vs => SqT K M t vs
structure Own (K : PySem.W.Frag) (H : Hp) (L : List (Addr × Ob)) (P : List Pf) : Prop where
  ex : ∃ M : Hp, (L.map Prod.fst).Nodup ∧ (∀ p ∈ L, Hd K M H p.1 p.2 ∧ M p.1 = none) ∧ (∀ b u, M b = some u → H b = some u) ∧ ∀ q ∈ P, q.ok K M
theorem Pf.same {K : PySem.W.Frag} {M M' : Hp} (s : Same M M') : ∀ q : Pf, q.ok K M → q.ok K M'
  | .tup t vs, h => s _ _ h
  | .lst t vs, h => s _ _ h
  | .dp vs ds, h => dpA_same s _ _ h
  | .sq t vs, h => sqt_same s h
theorem Hd.some {K : PySem.W.Frag} {M H : Hp} {a : Addr} : ∀ {o : Ob}, Hd K M H a o → ∃ u, H a = Option.some u
  | .raw _, h => ⟨_, h⟩
  | .such _, ⟨_, h, _⟩ => ⟨_, h⟩
  | .L _, ⟨_, h, _⟩ => ⟨_, h⟩
  | .D _, ⟨_, h, _⟩ => ⟨_, h⟩
theorem Hd.same {K : PySem.W.Frag} {M M' H H' : Hp} {a : Addr} (s : Same M M') (e : H' a = H a) : ∀ {o : Ob}, Hd K M H a o → Hd K M' H' a o
  | .raw _, h => e.trans h
  | .such _, ⟨_, h, q⟩ => ⟨_, e.trans h, q⟩
  | .L _, ⟨_, h, q⟩ => ⟨_, e.trans h, dpA_same s _ _ q⟩
  | .D _, ⟨_, h, k, q⟩ => ⟨_, e.trans h, k, dpA_same s _ _ q⟩
variable {K : PySem.W.Frag} {H H1 M : Hp} {L L' R B : List (Addr × Ob)} {P P' : List Pf} {p a t : Addr} {o : HO} {ob : Ob} {vs us : List V} {ds es : List PyData}
theorem Own.new (h : Own K H L P) (f : H p = none) (e : upd H p o = H1) : Own K H1 ((p, .raw o) :: L) P := by
  subst e
  obtain ⟨M, nd, hl, hs, hp⟩ := h.ex
  have np : ∀ q ∈ L, q.1 ≠ p := fun q hq z => by obtain ⟨u, hu⟩ := (hl q hq).1.some; rw [z, f] at hu; cases hu
  have mp : M p = none := by
    cases e : M p with
    | none => rfl
    | some u => rw [hs _ _ e] at f; cases f
  refine ⟨M, ?_, fun q hq => ?_, fun b u hb => ?_, hp⟩
  · rw [List.map_cons, List.nodup_cons]
    exact ⟨fun z => by obtain ⟨q, hq, e⟩ := List.mem_map.mp z; exact np q hq e, nd⟩
  · rcases List.mem_cons.mp hq with rfl | hq
    · exact ⟨upd_same, mp⟩
    · exact ⟨(hl q hq).1.same (L2.Same.refl _) (upd_ne (np q hq)), (hl q hq).2⟩
  · rw [upd_ne (fun z => by rw [z, mp] at hb; cases hb)]; exact hs _ _ hb
/-- a new thing that never changes -/
theorem Own.newM (h : Own K H L P) (f : H p = none) (e : upd H p o = H1) {q : Pf} (hq : ∀ M : Hp, M p = some o → q.ok K M) : Own K H1 L (q :: P) := by
  subst e
  obtain ⟨M, nd, hl, hs, hp⟩ := h.ex
  have np : ∀ q ∈ L, q.1 ≠ p := fun q hq z => by obtain ⟨u, hu⟩ := (hl q hq).1.some; rw [z, f] at hu; cases hu
  have mp : M p = none := by
    cases e : M p with
    | none => rfl
    | some u => rw [hs _ _ e] at f; cases f
  have sm : Same M (upd M p o) := same_upd mp
  refine ⟨upd M p o, nd, fun q hq => ⟨(hl q hq).1.same sm (upd_ne (np q hq)), by rw [upd_ne (np q hq)]; exact (hl q hq).2⟩, fun b u hb => ?_, fun r hr => ?_⟩
  · by_cases z : b = p
    · subst z; rw [upd_same] at hb ⊢; exact hb
    · rw [upd_ne z] at hb ⊢; exact hs _ _ hb
  · rcases List.mem_cons.mp hr with rfl | hr
    · exact hq _ upd_same
    · exact r.same sm (hp r hr)
theorem Own.newT (h : Own K H L P) (f : H p = none) (e : upd H p (.tup vs) = H1) : Own K H1 L (.tup p vs :: P) := h.newM f e fun _ z => z
theorem Own.newP (h : Own K H L P) (f : H p = none) (e : upd H p (.lst vs) = H1) : Own K H1 L (.lst p vs :: P) := h.newM f e fun _ z => z
inductive At : List (Addr × Ob) → Addr → Ob → List (Addr × Ob) → Prop
  | head {a : Addr} {o o' : Ob} {t : List (Addr × Ob)} : At ((a, o) :: t) a o' ((a, o') :: t)
  | tail {a : Addr} {o' : Ob} {p : Addr × Ob} {t t' : List (Addr × Ob)} : At t a o' t' → At (p :: t) a o' (p :: t')
  | app {a : Addr} {o' : Ob} {A t t' : List (Addr × Ob)} : At t a o' t' → At (A ++ t) a o' (A ++ t')
theorem At.parts {L L' : List (Addr × Ob)} {a : Addr} {o' : Ob} (h : At L a o' L') : ∃ x o y, L = x ++ (a, o) :: y ∧ L' = x ++ (a, o') :: y := by
  induction h with
  | head => exact ⟨[], _, _, rfl, rfl⟩
  | tail _ ih => obtain ⟨x, o, y, e1, e2⟩ := ih; exact ⟨_ :: x, o, y, by rw [e1]; rfl, by rw [e2]; rfl⟩
  | @app _ _ A _ _ _ ih => obtain ⟨x, o, y, e1, e2⟩ := ih; exact ⟨A ++ x, o, y, by rw [e1, List.append_assoc], by rw [e2, List.append_assoc]⟩
theorem Own.setU (h : Own K H L P) (m : At L a ob L') (e : upd H a o = H1) (hd : ∀ M : Hp, (∀ q ∈ P, q.ok K M) → (∀ o0, (a, o0) ∈ L → Hd K M H a o0) → Hd K M (upd H a o) a ob) : Own K H1 L' P := by
  subst e
  obtain ⟨M, nd, hl, hs, hp⟩ := h.ex
  obtain ⟨x, o0, y, rfl, rfl⟩ := m.parts
  have ma : M a = none := (hl (a, o0) (by simp)).2
  have nd' := nd
  rw [List.map_append, List.map_cons, List.nodup_append, List.nodup_cons] at nd'
  have na : ∀ q, (q ∈ x ∨ q ∈ y) → q.1 ≠ a := fun q hq z => by
    rcases hq with hq | hq
    · exact nd'.2.2 q.1 (List.mem_map_of_mem hq) a List.mem_cons_self z
    · exact nd'.2.1.1 (List.mem_map.mpr ⟨q, hq, z⟩)
  refine ⟨M, by rw [List.map_append, List.map_cons] at nd ⊢; exact nd, fun q hq => ?_, fun b u hb => ?_, hp⟩
  · have old : (q ∈ x ∨ q ∈ y) → Hd K M (upd H a o) q.1 q.2 ∧ M q.1 = none := fun z => by
      have := hl q (by rcases z with z | z <;> simp [z])
      exact ⟨this.1.same (L2.Same.refl _) (upd_ne (na q z)), this.2⟩
    rcases List.mem_append.mp hq with hq | hq
    · exact old (.inl hq)
    · rcases List.mem_cons.mp hq with rfl | hq
      · exact ⟨hd M hp fun o1 m1 => (hl _ m1).1, ma⟩
      · exact old (.inr hq)
  · rw [upd_ne (fun z => by rw [z, ma] at hb; cases hb)]; exact hs _ _ hb
theorem Own.setO (h : Own K H L P) (m : At L a ob L') (e : upd H a o = H1) (hd : ∀ M : Hp, (∀ q ∈ P, q.ok K M) → Hd K M (upd H a o) a ob) : Own K H1 L' P := h.setU m e fun M q _ => hd M q
theorem Own.set (h : Own K H L P) (m : At L a (.raw o) L') (e : upd H a o = H1) : Own K H1 L' P := h.setO m e fun _ _ => upd_same
/-- the same, by a name that a walker sees -/
def updX (H : Hp) (a : Addr) (o : HO) : Hp := upd H a o
theorem upd_mk (H : Hp) (a : Addr) (o : HO) : upd H a o = updX H a o := rfl
theorem upd_mkO (h : Own K H L P) (a : Addr) (o : HO) : upd H a o = updX H a o := rfl
theorem Own.cset {G : Prop} (h : Own K H L P) (e : updX H a o = H1) (m : At L a (.raw o) L') (k : Own K H1 L' P → G) : G := k (h.set m e)
theorem Own.cnewT {G : Prop} (h : Own K H L P) (e : updX H p (.tup vs) = H1) (f : H p = none) (k : Own K H1 L (.tup p vs :: P) → G) : G := k (h.newT f e)
theorem Own.cnew {G : Prop} (h : Own K H L P) (e : updX H p o = H1) (f : H p = none) (k : Own K H1 ((p, .raw o) :: L) P → G) : G := k (h.new f e)
theorem Own.make {C dx x : Addr} (h : Own K H L P) (f1 : H x = none) (f2 : H dx = none) (f3 : dx ≠ x) (e : upd (updX H dx (.own x)) x (.ins C dx []) = H1) : Own K H1 ((x, .raw (.ins C dx [])) :: L) P := by
  have h1 := h.new f2 (o := .own x) rfl
  have h2 := h1.new (p := x) (o := .ins C dx []) (by rw [upd_ne (Ne.symm f3)]; exact f1) e
  obtain ⟨M, nd, hl, hs, hp⟩ := h2.ex
  refine ⟨M, ?_, fun p hp' => hl p ?_, hs, hp⟩
  · simp only [List.map_cons, List.nodup_cons, List.mem_cons, not_or] at nd ⊢
    exact ⟨nd.1.2, nd.2.2⟩
  · rcases List.mem_cons.mp hp' with rfl | z
    · exact List.mem_cons_self
    · exact List.mem_cons_of_mem _ (List.mem_cons_of_mem _ z)
theorem Own.cmake {G : Prop} {C dx x : Addr} (h : Own K H L P) (f1 : H x = none) (f2 : H dx = none) (f3 : dx ≠ x) (e : upd (updX H dx (.own x)) x (.ins C dx []) = H1) (k : Own K H1 ((x, .raw (.ins C dx [])) :: L) P → G) : G := k (h.make f1 f2 f3 e)
theorem Own.raw (h : Own K H L P) (m : (a, Ob.raw o) ∈ L) : H a = some o := by
  obtain ⟨M, nd, hl, hs, hp⟩ := h.ex
  exact (hl _ m).1
theorem Own.ptup (h : Own K H L P) (m : Pf.tup t vs ∈ P) : H t = some (.tup vs) := by
  obtain ⟨M, nd, hl, hs, hp⟩ := h.ex
  exact hs _ _ (hp _ m)
theorem Own.plst (h : Own K H L P) (m : Pf.lst t vs ∈ P) : H t = some (.lst vs) := by
  obtain ⟨M, nd, hl, hs, hp⟩ := h.ex
  exact hs _ _ (hp _ m)
theorem Own.pdp (h : Own K H L P) (m : Pf.dp vs ds ∈ P) : DpAll K H vs ds := by
  obtain ⟨M, nd, hl, hs, hp⟩ := h.ex
  exact dpA_same hs _ _ (hp _ m)
theorem Own.psq (h : Own K H L P) (m : Pf.sq t vs ∈ P) : SqT K H t vs := by
  obtain ⟨M, nd, hl, hs, hp⟩ := h.ex
  exact sqt_same hs (hp _ m)
theorem Own.lst (h : Own K H L P) (m : (a, Ob.L ds) ∈ L) : ∃ vs, H a = some (.lst vs) ∧ DpAll K H vs ds := by
  obtain ⟨M, nd, hl, hs, hp⟩ := h.ex
  obtain ⟨vs, e, q⟩ := (hl _ m).1
  exact ⟨vs, e, dpA_same hs _ _ q⟩
/-- entries by other words of the same heap -/
theorem Own.re (h : Own K H L P) (m : At L a ob L') {P' : List Pf} (f : ∀ M : Hp, (∀ q ∈ P, q.ok K M) → (∀ b u, M b = some u → H b = some u) → (∀ o0, (a, o0) ∈ L → Hd K M H a o0) → Hd K M H a ob ∧ ∀ q ∈ P', q.ok K M) : Own K H L' P' := by
  obtain ⟨M, nd, hl, hs, hp⟩ := h.ex
  obtain ⟨x, o0, y, rfl, rfl⟩ := m.parts
  obtain ⟨g1, g2⟩ := f M hp hs fun o0 m => (hl _ m).1
  refine ⟨M, by rw [List.map_append, List.map_cons] at nd ⊢; exact nd, fun q hq => ?_, hs, g2⟩
  rcases List.mem_append.mp hq with z | z
  · exact hl q (List.mem_append.mpr (.inl z))
  · rcases List.mem_cons.mp z with rfl | z
    · exact ⟨g1, (hl (a, o0) (by simp)).2⟩
    · exact hl q (List.mem_append.mpr (.inr (List.mem_cons_of_mem _ z)))
theorem Own.openL (h : Own K H L P) (m : (a, Ob.L ds) ∈ L) : ∃ vs, ∀ L', At L a (.raw (.lst vs)) L' → Own K H L' (.dp vs ds :: P) := by
  obtain ⟨M, nd, hl, hs, hp⟩ := h.ex
  obtain ⟨vs, e, q⟩ := (hl _ m).1
  refine ⟨vs, fun L' m' => ?_⟩
  obtain ⟨x, o0, y, rfl, rfl⟩ := m'.parts
  refine ⟨M, by rw [List.map_append, List.map_cons] at nd ⊢; exact nd, fun z hz => ?_, hs, fun z hz => ?_⟩
  · rcases List.mem_append.mp hz with w | w
    · exact hl z (List.mem_append.mpr (.inl w))
    · rcases List.mem_cons.mp w with rfl | w
      · exact ⟨e, (hl (a, o0) (by simp)).2⟩
      · exact hl z (List.mem_append.mpr (.inr (List.mem_cons_of_mem _ w)))
  · rcases List.mem_cons.mp hz with rfl | hz
    · exact q
    · exact hp z hz
theorem Own.openD {kds : List (Key × PyData)} (h : Own K H L P) (m : (a, Ob.D kds) ∈ L) : ∃ kvs : List (Key × V), kvs.map Prod.fst = kds.map Prod.fst ∧ ∀ L', At L a (.raw (.dK kvs)) L' → Own K H L' (.dp (kvs.map Prod.snd) (kds.map Prod.snd) :: P) := by
  obtain ⟨M, nd, hl, hs, hp⟩ := h.ex
  obtain ⟨vs, e, k, q⟩ := (hl _ m).1
  refine ⟨vs, k, fun L' m' => ?_⟩
  obtain ⟨x, o0, y, rfl, rfl⟩ := m'.parts
  refine ⟨M, by rw [List.map_append, List.map_cons] at nd ⊢; exact nd, fun z hz => ?_, hs, fun z hz => ?_⟩
  · rcases List.mem_append.mp hz with w | w
    · exact hl z (List.mem_append.mpr (.inl w))
    · rcases List.mem_cons.mp w with rfl | w
      · exact ⟨e, (hl (a, o0) (by simp)).2⟩
      · exact hl z (List.mem_append.mpr (.inr (List.mem_cons_of_mem _ w)))
  · rcases List.mem_cons.mp hz with rfl | hz
    · exact q
    · exact hp z hz
theorem Own.openS {φ : HO → Prop} (h : Own K H L P) (m : (a, Ob.such φ) ∈ L) : ∃ o, φ o ∧ ∀ L', At L a (.raw o) L' → Own K H L' P := by
  obtain ⟨M, nd, hl, hs, hp⟩ := h.ex
  obtain ⟨o, e, q⟩ := (hl _ m).1
  refine ⟨o, q, fun L' m' => ?_⟩
  obtain ⟨x, o0, y, rfl, rfl⟩ := m'.parts
  refine ⟨M, by rw [List.map_append, List.map_cons] at nd ⊢; exact nd, fun z hz => ?_, hs, hp⟩
  rcases List.mem_append.mp hz with w | w
  · exact hl z (List.mem_append.mpr (.inl w))
  · rcases List.mem_cons.mp w with rfl | w
    · exact ⟨e, (hl (a, o0) (by simp)).2⟩
    · exact hl z (List.mem_append.mpr (.inr (List.mem_cons_of_mem _ w)))
theorem Own.derive (h : Own K H L P) {q : Pf} (f : ∀ M : Hp, (∀ q ∈ P, q.ok K M) → q.ok K M) : Own K H L (q :: P) := by
  obtain ⟨M, nd, hl, hs, hp⟩ := h.ex
  exact ⟨M, nd, hl, hs, fun r hr => (List.mem_cons.mp hr).elim (fun e => e ▸ f M hp) (hp r)⟩
/-! ### what follows of what is known -/
def Dv (K : PySem.W.Frag) (P : List Pf) (vs : List V) (ds : List PyData) : Prop := ∀ M : Hp, (∀ q ∈ P, q.ok K M) → DpAll K M vs ds
def Dv1 (K : PySem.W.Frag) (P : List Pf) (v : V) (d : PyData) : Prop := ∀ M : Hp, (∀ q ∈ P, q.ok K M) → Dp K M v d
theorem Dv.nil : Dv K P [] [] := fun _ _ => .nil
theorem Dv.cons {v : V} {d : PyData} (x : Dv1 K P v d) (y : Dv K P vs ds) : Dv K P (v :: vs) (d :: ds) := fun M h => .cons (x M h) (y M h)
theorem Dv.of (m : Pf.dp vs ds ∈ P) : Dv K P vs ds := fun M h => h _ m
theorem Dv.app (x : Dv K P vs ds) (y : Dv K P us es) : Dv K P (vs ++ us) (ds ++ es) := fun M h => L2.DpAll.app' (x M h) (y M h)
theorem Dv1.non : Dv1 K P .non .none := fun _ _ => .non
theorem Dv1.bl (b : Bool) : Dv1 K P (.bl b) (.bool b) := fun _ _ => .bl b
theorem Dv1.int (i : Int) : Dv1 K P (.int i) (.int i) := fun _ _ => .int i
theorem Dv1.str (x : Str) : Dv1 K P (.str x) (.str x) := fun _ _ => .str x
theorem Dv1.tup (m : Pf.tup t vs ∈ P) (x : Dv K P vs ds) : Dv1 K P (.ref t) (.tuple ds) := fun M h => .tup (SqT.of (h _ m)) (x M h)
theorem Dv1.lst (m : Pf.lst t vs ∈ P) (x : Dv K P vs ds) : Dv1 K P (.ref t) (.list ds) := fun M h => .lst (SqL.of (h _ m)) (x M h)
theorem Dv1.of {v : V} {d : PyData} (m : Pf.dp [v] [d] ∈ P) : Dv1 K P v d := fun M h => by cases h _ m with | cons x _ => exact x
theorem DpAll_split {M : Hp} : ∀ {a b : List V} {d e : List PyData}, L2.DpAll K M (a ++ b) (d ++ e) → a.length = d.length → L2.DpAll K M a d ∧ L2.DpAll K M b e
  | [], _, [], _, h, _ => ⟨.nil, h⟩
  | [], _, _ :: _, _, _, l => by simp at l
  | _ :: _, _, [], _, _, l => by simp at l
  | x :: a, b, y :: d, e, h, l => by
    cases h with
    | cons p q =>
      obtain ⟨r1, r2⟩ := DpAll_split (a := a) (b := b) (d := d) (e := e) q (by simpa using l)
      exact ⟨.cons p r1, r2⟩
theorem Dv.fst {us : List V} (x : Dv K P (vs ++ us) (ds ++ es)) (l : vs.length = ds.length) : Dv K P vs ds := fun M h => (DpAll_split (x M h) l).1
theorem Dv.snd {us : List V} (x : Dv K P (vs ++ us) (ds ++ es)) (l : vs.length = ds.length) : Dv K P us es := fun M h => (DpAll_split (x M h) l).2
theorem Dv.hd {v : V} {d : PyData} (x : Dv K P (v :: vs) (d :: ds)) : Dv1 K P v d := fun M h => by cases x M h with | cons y _ => exact y
theorem Dv.tl {v : V} {d : PyData} (x : Dv K P (v :: vs) (d :: ds)) : Dv K P vs ds := fun M h => by cases x M h with | cons _ y => exact y
theorem Own.pd1 {v : V} {d : PyData} (h : Own K H L P) (m : Pf.dp [v] [d] ∈ P) : Dp K H v d := by
  cases h.pdp m with
  | cons y _ => exact y
theorem Own.dpL (h : Own K H L P) (m : (a, Ob.L ds) ∈ L) : Dp K H (.ref a) (.list ds) := by
  obtain ⟨vs, e, q⟩ := h.lst m
  exact .lst (SqL.of e) q
theorem Dv.take (n : Nat) (x : Dv K P vs ds) : Dv K P (vs.take n) (ds.take n) := fun M h => (x M h).take n
theorem Dv.drop (n : Nat) (x : Dv K P vs ds) : Dv K P (vs.drop n) (ds.drop n) := fun M h => (x M h).drop n
theorem Dv.set {v : V} {d : PyData} (n : Nat) (y : Dv1 K P v d) (x : Dv K P vs ds) : Dv K P (vs.set n v) (ds.set n d) := fun M h => (x M h).set (y M h) n
theorem Dv.erase (n : Nat) (x : Dv K P vs ds) : Dv K P (vs.eraseIdx n) (ds.eraseIdx n) := fun M h => (x M h).erase n
theorem Dv.dropLast (x : Dv K P vs ds) : Dv K P vs.dropLast ds.dropLast := fun M h => (x M h).dropLast
theorem Dv.rev (x : Dv K P vs ds) : Dv K P vs.reverse ds.reverse := fun M h => (x M h).rev
theorem Dv.get {i : Nat} {v : V} {d : PyData} (x : Dv K P vs ds) (e1 : vs[i]? = some v) (e2 : ds[i]? = some d) : Dv1 K P v d := fun M h => (x M h).get' e1 e2
theorem Dv.ints (ns : List Int) : Dv K P (ns.map V.int) (ns.map PyData.int) := fun _ _ => dp_ints ns
theorem Own.dv (h : Own K H L P) (x : Dv K P vs ds) : Own K H L (.dp vs ds :: P) := h.derive x
theorem Own.dv1 {v : V} {d : PyData} (h : Own K H L P) (x : Dv1 K P v d) : Own K H L (.dp [v] [d] :: P) := h.derive fun M z => .cons (x M z) .nil
theorem Own.all (h : Own K H L P) (x : Dv K P vs ds) : DpAll K H vs ds := (h.dv x).pdp List.mem_cons_self
theorem Own.one {v : V} {d : PyData} (h : Own K H L P) (x : Dv1 K P v d) : Dp K H v d := by
  cases (h.dv1 x).pdp List.mem_cons_self with
  | cons y _ => exact y
theorem Own.setL (h : Own K H L P) (m : At L a (.L ds) L') (e : upd H a (.lst vs) = H1) (x : Dv K P vs ds) : Own K H1 L' P := h.setO m e fun M q => ⟨vs, upd_same, x M q⟩
theorem Own.setS {φ : HO → Prop} (h : Own K H L P) (m : At L a (.such φ) L') (e : upd H a o = H1) (x : φ o) : Own K H1 L' P := h.setO m e fun _ _ => ⟨o, upd_same, x⟩
theorem Own.setD {kvs : List (Key × V)} {kds : List (Key × PyData)} (h : Own K H L P) (m : At L a (.D kds) L') (e : upd H a (.dK kvs) = H1) (k : kvs.map Prod.fst = kds.map Prod.fst) (x : Dv K P (kvs.map Prod.snd) (kds.map Prod.snd)) : Own K H1 L' P := h.setO m e fun M q => ⟨kvs, upd_same, k, x M q⟩
theorem Own.closeL (h : Own K H L P) (m : (a, Ob.raw (.lst vs)) ∈ L) (x : Dv K P vs ds) (m' : At L a (.L ds) L') : Own K H L' P := h.re m' fun M q hs hd => ⟨⟨vs, hd _ m, x M q⟩, q⟩
theorem Own.closeS {φ : HO → Prop} (h : Own K H L P) (m : (a, Ob.raw o) ∈ L) (x : φ o) (m' : At L a (.such φ) L') : Own K H L' P := h.re m' fun M q hs hd => ⟨⟨o, hd _ m, x⟩, q⟩
theorem Own.closeD {kvs : List (Key × V)} {kds : List (Key × PyData)} (h : Own K H L P) (m : (a, Ob.raw (.dK kvs)) ∈ L) (k : kvs.map Prod.fst = kds.map Prod.fst) (x : Dv K P (kvs.map Prod.snd) (kds.map Prod.snd)) (m' : At L a (.D kds) L') : Own K H L' P := h.re m' fun M q hs hd => ⟨⟨kvs, hd _ m, k, x M q⟩, q⟩
/-! ### blocks out of a list, and less -/
def Pk (L B R : List (Addr × Ob)) : Prop := L.Perm (B ++ R)
theorem Pk.one {p : Addr × Ob} : Pk (p :: R) [p] R := List.Perm.refl _
theorem Pk.here : Pk (B ++ R) B R := List.Perm.refl _
theorem Pk.all : Pk B B [] := by unfold Pk; rw [List.append_nil]
theorem Pk.skip1 {p : Addr × Ob} (h : Pk L B R) : Pk (p :: L) B (p :: R) := (h.cons p).trans List.perm_middle.symm
theorem Pk.skipB {A : List (Addr × Ob)} (h : Pk L B R) : Pk (A ++ L) B (A ++ R) := by
  unfold Pk at h ⊢
  refine (List.Perm.append_left A h).trans ?_
  rw [← List.append_assoc, ← List.append_assoc]
  exact List.Perm.append_right R List.perm_append_comm
/-- what stands by one word stands by another -/
def Ft (K : PySem.W.Frag) (P : List Pf) (o' o : Ob) : Prop := ∀ (M H : Hp) (a : Addr), (∀ q ∈ P, q.ok K M) → Hd K M H a o' → Hd K M H a o
theorem Ft.refl {o : Ob} : Ft K P o o := fun _ _ _ _ h => h
theorem Ft.eq {o' o : Ob} (e : o' = o) : Ft K P o' o := e ▸ Ft.refl
theorem Ft.lst {us vs : List V} (e : us = vs) : Ft K P (.raw (.lst us)) (.raw (.lst vs)) := e ▸ Ft.refl
theorem Ft.ins {C dx : Addr} {us vs : List (Str × V)} (e : us = vs) : Ft K P (.raw (.ins C dx us)) (.raw (.ins C dx vs)) := e ▸ Ft.refl
theorem Ft.dK {us vs : List (Key × V)} (e : us = vs) : Ft K P (.raw (.dK us)) (.raw (.dK vs)) := e ▸ Ft.refl
theorem Ft.toL (x : Dv K P vs ds) : Ft K P (.raw (.lst vs)) (.L ds) := fun M _ _ q h => ⟨vs, h, x M q⟩
theorem Ft.toS {φ : HO → Prop} {o : HO} (x : φ o) : Ft K P (.raw o) (.such φ) := fun _ _ _ _ h => ⟨o, h, x⟩
theorem Ft.toD {kvs : List (Key × V)} {kds : List (Key × PyData)} (k : kvs.map Prod.fst = kds.map Prod.fst) (x : Dv K P (kvs.map Prod.snd) (kds.map Prod.snd)) : Ft K P (.raw (.dK kvs)) (.D kds) := fun M _ _ q h => ⟨kvs, h, k, x M q⟩
theorem Ft.Le {ds es : List PyData} (e : ds = es) : Ft K P (.L ds) (.L es) := e ▸ Ft.refl
theorem Ft.De {ds es : List (Key × PyData)} (e : ds = es) : Ft K P (.D ds) (.D es) := e ▸ Ft.refl
theorem Ft.S {φ ψ : HO → Prop} (e : ∀ o, φ o → ψ o) : Ft K P (.such φ) (.such ψ) := fun _ _ _ _ ⟨o, h, x⟩ => ⟨o, h, e o x⟩
inductive Al (K : PySem.W.Frag) (P : List Pf) : List (Addr × Ob) → List (Addr × Ob) → Prop
  | nil : Al K P [] []
  | cons {a : Addr} {o' o : Ob} {L' L : List (Addr × Ob)} : Ft K P o' o → Al K P L' L → Al K P ((a, o') :: L') ((a, o) :: L)
theorem Al.refl : ∀ L : List (Addr × Ob), Al K P L L
  | [] => .nil
  | (_, _) :: t => .cons Ft.refl (Al.refl t)
theorem Al.app {A A' B B' : List (Addr × Ob)} (x : Al K P A A') (y : Al K P B B') : Al K P (A ++ B) (A' ++ B') := by
  induction x with
  | nil => exact y
  | cons f _ ih => exact .cons f ih
theorem Al.fst {A A' : List (Addr × Ob)} (x : Al K P A A') : A.map Prod.fst = A'.map Prod.fst := by
  induction x with
  | nil => rfl
  | cons f _ ih => rw [List.map_cons, List.map_cons, ih]
theorem Al.hd {A A' : List (Addr × Ob)} (x : Al K P A A') {M H : Hp} (q : ∀ q ∈ P, q.ok K M) (h : ∀ p ∈ A, Hd K M H p.1 p.2 ∧ M p.1 = none) : ∀ p ∈ A', Hd K M H p.1 p.2 ∧ M p.1 = none := by
  induction x with
  | nil => exact fun _ z => nomatch z
  | cons f _ ih =>
    intro p hp
    rcases List.mem_cons.mp hp with rfl | hp
    · have := h _ List.mem_cons_self
      exact ⟨f _ _ _ q this.1, this.2⟩
    · exact ih (fun p hp => h p (List.mem_cons_of_mem _ hp)) p hp
/-- L' out of L -/
def Sb (K : PySem.W.Frag) (P : List Pf) (L' L : List (Addr × Ob)) : Prop := ∃ L1 R, L.Perm (L1 ++ R) ∧ Al K P L1 L'
theorem Sb.refl (L : List (Addr × Ob)) : Sb K P L L := ⟨L, [], by rw [List.append_nil], Al.refl L⟩
theorem Sb.nil : Sb K P [] L := ⟨[], L, List.Perm.refl _, .nil⟩
theorem Sb.app (x : Pk L B R) (y : Sb K P L' R) : Sb K P (B ++ L') L := by
  obtain ⟨L1, z, e, al⟩ := y
  exact ⟨B ++ L1, z, x.trans (by rw [List.append_assoc]; exact List.Perm.append_left B e), Al.app (Al.refl B) al⟩
theorem Sb.cons {o' : Ob} (x : Pk L [(a, o')] R) (f : Ft K P o' ob) (y : Sb K P L' R) : Sb K P ((a, ob) :: L') L := by
  obtain ⟨L1, z, e, al⟩ := y
  exact ⟨(a, o') :: L1, z, x.trans (List.Perm.append_left [(a, o')] e), .cons f al⟩
theorem Sb.skip {p : Addr × Ob} (y : Sb K P L' L) : Sb K P L' (p :: L) := by
  obtain ⟨L1, z, e, al⟩ := y
  exact ⟨L1, p :: z, (e.cons p).trans List.perm_middle.symm, al⟩
theorem Sb.skipB {A : List (Addr × Ob)} (y : Sb K P L' L) : Sb K P L' (A ++ L) := by
  obtain ⟨L1, z, e, al⟩ := y
  refine ⟨L1, A ++ z, (List.Perm.append_left A e).trans ?_, al⟩
  rw [← List.append_assoc, ← List.append_assoc]
  exact List.Perm.append_right z List.perm_append_comm
def Ps (P' P : List Pf) : Prop := ∀ r ∈ P', r ∈ P
theorem Ps.refl : Ps P P := fun _ h => h
theorem Ps.nil : Ps [] P := fun _ h => nomatch h
theorem Ps.skip {q : Pf} (h : Ps P' P) : Ps P' (q :: P) := fun r hr => List.mem_cons_of_mem _ (h r hr)
theorem Ps.cons {q : Pf} (m : q ∈ P) (h : Ps P' P) : Ps (q :: P') P := fun r hr => (List.mem_cons.mp hr).elim (fun e => e ▸ m) (h r)
theorem Own.sub (h : Own K H L P) (s : Sb K P L' L) (q : Ps P' P) : Own K H L' P' := by
  obtain ⟨M, nd, hl, hs, hp⟩ := h.ex
  obtain ⟨L1, z, e, al⟩ := s
  have nd' := (e.map Prod.fst).nodup_iff.mp nd
  rw [List.map_append, List.nodup_append, al.fst] at nd'
  exact ⟨M, nd'.1, al.hd hp fun p hp' => hl p (e.mem_iff.mpr (List.mem_append.mpr (.inl hp'))), hs, fun r hr => hp r (q r hr)⟩
theorem Own.pick (h : Own K H L P) (m : Pk L B R) : Own K H (B ++ R) P := h.sub ⟨B ++ R, [], by rw [List.append_nil]; exact m, Al.refl _⟩ Ps.refl
/-- a flat value -/
def fv : PyData → V
  | .int i => .int i
  | .bool b => .bl b
  | .str x => .str x
  | _ => .non
def flatD : PyData → Bool
  | .int _ => true
  | .bool _ => true
  | .str _ => true
  | .none => true
  | _ => false
theorem dp_flat {M : Hp} : ∀ {d : PyData} {v : V}, Dp K M v d → flatD d = true → v = fv d
  | _, _, .non, _ => rfl
  | _, _, .bl _, _ => rfl
  | _, _, .int _, _ => rfl
  | _, _, .str _, _ => rfl
  | _, _, .lst _ _, h => nomatch h
  | _, _, .tup _ _, h => nomatch h
theorem dp_flats {M : Hp} : ∀ {vs : List V} {ds : List PyData}, DpAll K M vs ds → ds.all flatD = true → vs = ds.map fv
  | _, _, .nil, _ => rfl
  | _, _, .cons x y, h => by
    rw [List.all_cons, Bool.and_eq_true] at h
    rw [List.map_cons, ← dp_flat x h.1, ← dp_flats y h.2]
/-- a tuple of flat values opened -/
theorem Own.opn {v : V} {ds : List PyData} (h : Own K H L P) (x : Dv1 K P v (.tuple ds)) (hf : ds.all flatD = true := by rfl) : ∃ t, v = .ref t ∧ Own K H L (.sq t (ds.map fv) :: P) := by
  obtain ⟨M, nd, hl, hs, hp⟩ := h.ex
  cases x M hp with
  | @tup t xs _ hq ha =>
    refine ⟨t, rfl, M, nd, hl, hs, fun q hq' => ?_⟩
    rcases List.mem_cons.mp hq' with rfl | hq'
    · rw [← dp_flats ha hf]; exact hq
    · exact hp q hq'
/-- a list that is given up: it never changes any more -/
theorem Own.give (h : Own K H L P) (m : Pk L [(a, Ob.raw (.lst vs))] R) : Own K H R (.lst a vs :: P) := by
  have h2 : Own K H ((a, Ob.raw (.lst vs)) :: R) P := h.pick m
  obtain ⟨M, nd, hl, hs, hp⟩ := h2.ex
  rw [List.map_cons, List.nodup_cons] at nd
  have ha : H a = some (.lst vs) := (hl (a, Ob.raw (.lst vs)) List.mem_cons_self).1
  have ma : M a = none := (hl (a, Ob.raw (.lst vs)) List.mem_cons_self).2
  have sm : Same M (upd M a (.lst vs)) := same_upd ma
  refine ⟨upd M a (.lst vs), nd.2, fun q hq => ?_, fun b u hb => ?_, fun r hr => ?_⟩
  · have n : q.1 ≠ a := fun z => nd.1 (List.mem_map.mpr ⟨q, hq, z⟩)
    have := hl q (List.mem_cons_of_mem _ hq)
    exact ⟨this.1.same sm rfl, by rw [upd_ne n]; exact this.2⟩
  · by_cases z : b = a
    · subst z; rw [upd_same] at hb; rw [ha]; exact hb
    · rw [upd_ne z] at hb; exact hs _ _ hb
  · rcases List.mem_cons.mp hr with rfl | hr
    · exact (upd_same : upd M a (.lst vs) a = _)
    · exact r.same sm (hp r hr)
theorem Own.none_of (h : Own K H L P) (f : H p = none) : ∀ q ∈ L, q.1 ≠ p := fun q hq z => by
  obtain ⟨M, nd, hl, hs, hp⟩ := h.ex
  obtain ⟨u, hu⟩ := (hl q hq).1.some; rw [z, f] at hu; cases hu
/-- owned of nothing: a start -/
theorem Own.start {K : PySem.W.Frag} {H : Hp} : Own K H [] [] := ⟨fun _ => none, by simp, fun _ h => (nomatch h), fun _ _ h => (nomatch h), fun _ h => (nomatch h)⟩
theorem pg_trip {X : Cx} {i j l : Nat} {x y z : Str} {p1 p2 p3 pos : Pos} {kk : Nat} (hc : X.calm = true) (hN : X.N.Nodup) (hi : X.N[i]? = some x) (hj : X.N[j]? = some y) (hl : X.N[l]? = some z) (hx : Loc X.env.scope x) (hy : Loc X.env.scope y) (hz : Loc X.env.scope z)
    (hf : X.fn x = true ∨ X.env.scope.names.lookup x = some .local := by first | exact .inl rfl | exact .inr rfl | assumption) (hf2 : X.fn y = true ∨ X.env.scope.names.lookup y = some .local := by first | exact .inl rfl | exact .inr rfl | assumption) (hf3 : X.fn z = true ∨ X.env.scope.names.lookup z = some .local := by first | exact .inl rfl | exact .inr rfl | assumption)
    (hn : (assignEach [Expr.Name x p1, .Name y p2, .Name z p3] X.env).length = 3 := by rfl) (hst : (assignEach [Expr.Name x p1, .Name y p2, .Name z p3] X.env).findIdx? (·.1) = none := by rfl)
    (hs : (assignEach [Expr.Name x p1, .Name y p2, .Name z p3] X.env).map (·.2) = assign (.Name x p1) X.env :: (assignEach [Expr.Name y p2, .Name z p3] X.env).map (·.2) := by rfl)
    (hs2 : (assignEach [Expr.Name y p2, .Name z p3] X.env).map (·.2) = assign (.Name y p2) X.env :: (assignEach [Expr.Name z p3] X.env).map (·.2) := by rfl)
    (hs3 : (assignEach [Expr.Name z p3] X.env).map (·.2) = assign (.Name z p3) X.env :: (assignEach [] X.env).map (·.2) := by rfl) :
    PG X (.Tuple [.Name x p1, .Name y p2, .Name z p3] kk pos) (gTup X.K 3 (gCons (gName i) (gCons (gName j) (gCons (gName l) gNil)))) :=
  pg_tup hc (pgs_cons (pg_name hN hi hx hf) (pgs_cons (pg_name hN hj hy hf2) (pgs_cons (pg_name hN hl hz hf3) pgs_nil hs3) hs2) hs) hn hst
theorem kit_self' {K : PySem.W.Frag} {C : Addr} : PySem.W.kitOne K (.ref C) (.ref C) = some true := if_pos (beq_self_eq_true _)
/-! ### comprehensions -/
section
variable {g : TG} {te : TE} {tt : TT} {wv : List Nat} {σ : L2.St} {D : Addr} {Qd : Hp → Prop} {xs : List V}
theorem own_app {i : Nat} {y : V} {d : PyData} {vs : List V} (q' : Own K H ((D, .L ds) :: L) P) (ev : H D = some (.lst vs)) (dv : Dv1 K P y d) : Own K (upd H D (.lst (vs ++ [y]))) ((D, .L (ds ++ [d])) :: L) P := by
  refine q'.setU .head rfl fun M hp ho => ⟨vs ++ [y], upd_same, ?_⟩
  obtain ⟨vs', ev', dvs⟩ := ho _ List.mem_cons_self
  rw [ev] at ev'
  cases ev'
  exact L2.DpAll.app' dvs (.cons (dv M hp) .nil)
/-- a new list of data, over any walk -/
theorem lc_ownW {J : It} {n : Nat} {G : Hp → Prop} {Y : Nat → Hp → V → Hp → Prop} (w : Walk J n G Y) (ds : List PyData) (h : Own K H1 L P) (hD : H1 D = none) (hx : n = ds.length) (hz : n ≤ 10000)
    (ha : ∀ (H : Hp) (L' : List (Addr × Ob)) (P' : List Pf), (∀ p ∈ L, p ∈ L') → Ps P P' → Own K H L' P' → G H)
    (hs : ∀ (i : Nat) (x : V) (d : PyData) (H H' : Hp) (P' : List Pf) (Q : VK), i < n → Y i H x H' → ds[i]? = some d → Ps P P' → Own K H ((D, .L (ds.take i)) :: L) P' →
      (∀ (y : V) (H'' : Hp) (P'' : List Pf), Ps P' P'' → Own K H'' ((D, .L (ds.take i)) :: L) P'' → Dv1 K P'' y d → Q y H'') → g x (wipe σ wv) H' fun σ2 H2 => wipe σ2 wv = wipe σ wv ∧ te σ2 H2 Q)
    (hd : ∀ (H' : Hp) (P' : List Pf), Ps P P' → Own K H' ((D, .L ds) :: L) P' → Qd H') :
    ∃ W : Nat → Nat → Hp → Prop, (∃ m, W 0 m (upd H1 D (.lst []))) ∧ ∀ i m H, W i m H →
      (J.stop i H ∧ Qd H) ∨ (J.go i H ∧ ∃ Nx : Hp → Prop, (∀ H', Nx H' → ∃ m', m' < m ∧ W (i + 1) m' H') ∧ ∀ x H', J.yld i H x H' → g x (wipe σ wv) H' fun σ2 H2 => wipe σ2 wv = wipe σ wv ∧ tYes σ2 H2 fun b H3 =>
        if b = true then te σ2 H3 fun y H4 => ∃ acc, H4 D = some (.lst acc) ∧ acc.length < sizeLine ∧ Nx (upd H4 D (.lst (acc ++ [y]))) else Nx H3) := by
  refine lc_it w (fun i H => ∃ P', Ps P P' ∧ Own K H ((D, .L (ds.take i)) :: L) P') ⟨P, Ps.refl, ?_⟩ (fun i H _ ⟨P', s, q⟩ => ha H _ P' (fun p m => List.mem_cons_of_mem _ m) s q) (fun i x H H' hi ⟨P', s, q⟩ y => ?_) (fun H ⟨P', s, q⟩ => hd H P' s (by rw [List.take_of_length_le (by omega)] at q; exact q))
  · have h2 := h.new hD (o := .lst []) rfl
    exact h2.closeL (vs := []) List.mem_cons_self (by rw [List.take_zero]; exact Dv.nil) .head
  · have hi2 : i < ds.length := by omega
    refine hs i x ds[i] H H' P' _ hi y (List.getElem?_eq_getElem hi2) s q (fun y H'' P'' s' q' dv => ?_)
    obtain ⟨vs, ev, dvs⟩ := q'.lst List.mem_cons_self
    have len := dvs.len
    rw [List.length_take] at len
    refine ⟨vs, ev, size_lt (by omega), P'', fun r m => s' r (s r m), ?_⟩
    rw [List.take_add_one, List.getElem?_eq_getElem hi2]
    exact own_app (i := i) q' ev dv
/-- the same of flat values, as they are -/
theorem lc_rawW {J : It} {n : Nat} {G : Hp → Prop} {Y : Nat → Hp → V → Hp → Prop} (w : Walk J n G Y) (ys : List V) (h : Own K H1 L P) (hD : H1 D = none) (hx : n = ys.length) (hz : n ≤ 10000)
    (ha : ∀ (H : Hp) (L' : List (Addr × Ob)) (P' : List Pf), (∀ p ∈ L, p ∈ L') → Ps P P' → Own K H L' P' → G H)
    (hs : ∀ (i : Nat) (x y : V) (H H' : Hp) (P' : List Pf) (Q : VK), i < n → Y i H x H' → ys[i]? = some y → Ps P P' → Own K H ((D, .raw (.lst (ys.take i))) :: L) P' →
      (∀ (H'' : Hp) (P'' : List Pf), Ps P' P'' → Own K H'' ((D, .raw (.lst (ys.take i))) :: L) P'' → Q y H'') → g x (wipe σ wv) H' fun σ2 H2 => wipe σ2 wv = wipe σ wv ∧ te σ2 H2 Q)
    (hd : ∀ (H' : Hp) (P' : List Pf), Ps P P' → Own K H' ((D, .raw (.lst ys)) :: L) P' → Qd H') :
    ∃ W : Nat → Nat → Hp → Prop, (∃ m, W 0 m (upd H1 D (.lst []))) ∧ ∀ i m H, W i m H →
      (J.stop i H ∧ Qd H) ∨ (J.go i H ∧ ∃ Nx : Hp → Prop, (∀ H', Nx H' → ∃ m', m' < m ∧ W (i + 1) m' H') ∧ ∀ x H', J.yld i H x H' → g x (wipe σ wv) H' fun σ2 H2 => wipe σ2 wv = wipe σ wv ∧ tYes σ2 H2 fun b H3 =>
        if b = true then te σ2 H3 fun y H4 => ∃ acc, H4 D = some (.lst acc) ∧ acc.length < sizeLine ∧ Nx (upd H4 D (.lst (acc ++ [y]))) else Nx H3) := by
  refine lc_it w (fun i H => ∃ P', Ps P P' ∧ Own K H ((D, .raw (.lst (ys.take i))) :: L) P') ⟨P, Ps.refl, ?_⟩ (fun i H _ ⟨P', s, q⟩ => ha H _ P' (fun p m => List.mem_cons_of_mem _ m) s q) (fun i x H H' hi ⟨P', s, q⟩ y => ?_) (fun H ⟨P', s, q⟩ => hd H P' s (by rw [List.take_of_length_le (by omega)] at q; exact q))
  · rw [List.take_zero]; exact h.new hD rfl
  · have hi2 : i < ys.length := by omega
    refine hs i x ys[i] H H' P' _ hi y (List.getElem?_eq_getElem hi2) s q (fun H'' P'' s' q' => ?_)
    refine ⟨ys.take i, q'.raw List.mem_cons_self, size_lt (by rw [List.length_take]; omega), P'', fun r m => s' r (s r m), ?_⟩
    rw [List.take_add_one, List.getElem?_eq_getElem hi2]
    exact q'.set .head rfl
/-- sifted: those of zs that t takes, as they are; tt tells t, te the thing -/
theorem lc_siftW {α : Type} {J : It} {G : Hp → Prop} {Y : Nat → Hp → V → Hp → Prop} (zs : List α) (f : α → V) (t : α → Bool) (w : Walk J zs.length G Y) (h : Own K H1 L P) (hD : H1 D = none) (hz : zs.length ≤ 10000)
    (ha : ∀ (H : Hp) (L' : List (Addr × Ob)) (P' : List Pf), (∀ p ∈ L, p ∈ L') → Ps P P' → Own K H L' P' → G H)
    (hs : ∀ (i : Nat) (z : α) (x : V) (H H' : Hp) (P' : List Pf) (ys : List V) (Qn : Hp → Prop) (Qy : VK), zs[i]? = some z → Y i H x H' → Ps P P' → Own K H ((D, .raw (.lst ys)) :: L) P' →
      (t z = false → ∀ (H'' : Hp) (P'' : List Pf), Ps P' P'' → Own K H'' ((D, .raw (.lst ys)) :: L) P'' → Qn H'') →
      (t z = true → ∀ (H'' : Hp) (P'' : List Pf), Ps P' P'' → Own K H'' ((D, .raw (.lst ys)) :: L) P'' → Qy (f z) H'') → g x (wipe σ wv) H' fun σ2 H2 => wipe σ2 wv = wipe σ wv ∧ tt σ2 H2 fun b H3 => if b = true then te σ2 H3 Qy else Qn H3)
    (hd : ∀ (H' : Hp) (P' : List Pf), Ps P P' → Own K H' ((D, .raw (.lst ((zs.filter t).map f))) :: L) P' → Qd H') :
    ∃ W : Nat → Nat → Hp → Prop, (∃ m, W 0 m (upd H1 D (.lst []))) ∧ ∀ i m H, W i m H →
      (J.stop i H ∧ Qd H) ∨ (J.go i H ∧ ∃ Nx : Hp → Prop, (∀ H', Nx H' → ∃ m', m' < m ∧ W (i + 1) m' H') ∧ ∀ x H', J.yld i H x H' → g x (wipe σ wv) H' fun σ2 H2 => wipe σ2 wv = wipe σ wv ∧ tt σ2 H2 fun b H3 =>
        if b = true then te σ2 H3 fun y H4 => ∃ acc, H4 D = some (.lst acc) ∧ acc.length < sizeLine ∧ Nx (upd H4 D (.lst (acc ++ [y]))) else Nx H3) := by
  refine lc_it w (fun i H => ∃ P', Ps P P' ∧ Own K H ((D, .raw (.lst (((zs.take i).filter t).map f))) :: L) P') ⟨P, Ps.refl, ?_⟩ (fun i H _ ⟨P', s, q⟩ => ha H _ P' (fun p m => List.mem_cons_of_mem _ m) s q) (fun i x H H' hi ⟨P', s, q⟩ y => ?_) (fun H ⟨P', s, q⟩ => hd H P' s (by rw [List.take_of_length_le (by omega)] at q; exact q))
  · rw [List.take_zero]; exact h.new hD rfl
  · have et : zs.take (i + 1) = zs.take i ++ [zs[i]] := by rw [List.take_add_one, List.getElem?_eq_getElem hi]; rfl
    refine hs i zs[i] x H H' P' _ _ _ (List.getElem?_eq_getElem hi) y s q (fun tn H'' P'' s' q' => ⟨P'', fun r m => s' r (s r m), ?_⟩) (fun ty H'' P'' s' q' => ?_)
    · rw [et, List.filter_append, List.filter_cons, tn]; simpa using q'
    · refine ⟨_, q'.raw List.mem_cons_self, size_lt (by rw [List.length_map]; exact Nat.le_trans (List.length_filter_le _ _) (by rw [List.length_take]; omega)), P'', fun r m => s' r (s r m), ?_⟩
      have e2 : ((zs.take (i + 1)).filter t).map f = ((zs.take i).filter t).map f ++ [f zs[i]] := by rw [et, List.filter_append, List.filter_cons, ty]; simp
      rw [e2]
      exact q'.set .head rfl
end
/-! ### the pot -/
def PotO (o : HO) : Prop := ∃ x y : Int, o = .lst [.int x, .int y] ∧ 0 ≤ x ∧ 0 ≤ y ∧ y < 4294967296
def pt (a : Addr) : List (Addr × Ob) := [(a, .such PotO)]
/-- called with the pot and how many: a number below that, and the pot is still one -/
def spDrw (K : PySem.W.Frag) : Sp := fun vs H Q _ => ∃ (a : Addr) (n : Int) (R : List (Addr × Ob)) (P : List Pf), vs = [.ref a, .int n] ∧ Own K H (pt a ++ R) P ∧ 0 < n ∧ n < 1073741824 ∧
  ∀ (d : Int) (H' : Hp), 0 ≤ d → d < n → Own K H' (pt a ++ R) P → Q (.int d) H'
end Hx

set_option Elab.async false
set_option linter.all false
set_option maxRecDepth 100000
set_option maxHeartbeats 4000000
/-! cuts: what holds behind a statement, behind a test, is said once for all ways that come there -/
namespace Hx
open PySem PySem.Spec PyProof.Rows L2
def tMid (t : TS) : TS := fun D σ H => Stop (∃ Mid : L2.St → Hp → Prop, t { D with nx := Mid } σ H ∧ ∀ σ' H', Mid σ' H' → D.nx σ' H')
theorem ps_mid {X : Cx} {st : Stmt} {t : TS} (h : PS X st t) : PS X st (tMid t) := by
  refine ⟨fun pins s σ H D I q => ?_⟩
  obtain ⟨Mid, q, r⟩ := q.h
  refine thn (h.run pins s σ H { D with nx := Mid } I q) fun f s1 q => ?_
  cases f with
  | next =>
    obtain ⟨σ', H', I', q⟩ := q
    exact ⟨σ', H', I', r _ _ q⟩
  | ret v => exact q
  | brk => exact q
  | cont => exact q
def tTMid (t : TT) : TT := fun σ H Q => Stop (∃ Mid : Bool → Hp → Prop, t σ H Mid ∧ ∀ b H', Mid b H' → Q b H')
theorem pt_mid {X : Cx} {c : Expr} {t : TT} (h : PT X c t) : PT X c (tTMid t) := by
  refine ⟨fun pins s σ H Q I q => ?_⟩
  obtain ⟨Mid, q, r⟩ := q.h
  refine thn (h.run pins s σ H Mid I q) fun d s1 q => ?_
  obtain ⟨H1, I1, q⟩ := q
  exact ⟨H1, I1, r _ _ q⟩
def tEMid (t : TE) : TE := fun σ H Q => Stop (∃ Mid : VK, t σ H Mid ∧ ∀ v H', Mid v H' → Q v H')
theorem pe_mid {X : Cx} {e : Expr} {t : TE} (h : PE X e t) : PE X e (tEMid t) := by
  refine ⟨fun pins s σ H Q I q => ?_⟩
  obtain ⟨Mid, q, r⟩ := q.h
  refine thn (h.run pins s σ H Mid I q) fun d s1 q => ?_
  obtain ⟨v, H1, I1, rv, q⟩ := q
  exact ⟨v, H1, I1, rv, r _ _ q⟩
theorem Ps.trans {P P' P'' : List Pf} (h : Ps P P') (k : Ps P' P'') : Ps P P'' := fun r hr => k r (h r hr)
end Hx

set_option Elab.async false
set_option linter.all false
set_option maxRecDepth 100000
set_option maxHeartbeats 4000000
/-! HsDict: dicts with keys of ints in owned heaps: look-ups, stores, walks under a lock, comprehensions; sorted lists -/
namespace Hx
open PySem PySem.Spec PyProof.Rows L2
/-- a target x, (y, z) -/
theorem pg_pairN {X : Cx} {i j l : Nat} {x y z : Str} {p1 p2 p3 pos pos2 : Pos} {kk kk2 : Nat} (hc : X.calm = true) (hN : X.N.Nodup) (hi : X.N[i]? = some x) (hj : X.N[j]? = some y) (hl : X.N[l]? = some z) (hx : Loc X.env.scope x) (hy : Loc X.env.scope y) (hz : Loc X.env.scope z)
    (hf : X.fn x = true ∨ X.env.scope.names.lookup x = some .local := by first | exact .inl rfl | exact .inr rfl | assumption) (hf2 : X.fn y = true ∨ X.env.scope.names.lookup y = some .local := by first | exact .inl rfl | exact .inr rfl | assumption) (hf3 : X.fn z = true ∨ X.env.scope.names.lookup z = some .local := by first | exact .inl rfl | exact .inr rfl | assumption)
    (hn : (assignEach [Expr.Name x p1, .Tuple [.Name y p2, .Name z p3] kk2 pos2] X.env).length = 2 := by rfl) (hst : (assignEach [Expr.Name x p1, .Tuple [.Name y p2, .Name z p3] kk2 pos2] X.env).findIdx? (·.1) = none := by rfl)
    (hs : (assignEach [Expr.Name x p1, .Tuple [.Name y p2, .Name z p3] kk2 pos2] X.env).map (·.2) = assign (.Name x p1) X.env :: (assignEach [Expr.Tuple [.Name y p2, .Name z p3] kk2 pos2] X.env).map (·.2) := by rfl)
    (hs2 : (assignEach [Expr.Tuple [.Name y p2, .Name z p3] kk2 pos2] X.env).map (·.2) = assign (.Tuple [.Name y p2, .Name z p3] kk2 pos2) X.env :: (assignEach [] X.env).map (·.2) := by rfl)
    (hn' : (assignEach [Expr.Name y p2, .Name z p3] X.env).length = 2 := by rfl) (hst' : (assignEach [Expr.Name y p2, .Name z p3] X.env).findIdx? (·.1) = none := by rfl)
    (hs' : (assignEach [Expr.Name y p2, .Name z p3] X.env).map (·.2) = assign (.Name y p2) X.env :: (assignEach [Expr.Name z p3] X.env).map (·.2) := by rfl)
    (hs2' : (assignEach [Expr.Name z p3] X.env).map (·.2) = assign (.Name z p3) X.env :: (assignEach [] X.env).map (·.2) := by rfl) :
    PG X (.Tuple [.Name x p1, .Tuple [.Name y p2, .Name z p3] kk2 pos2] kk pos) (gTup X.K 2 (gCons (gName i) (gCons (gTup X.K 2 (gCons (gName j) (gCons (gName l) gNil))) gNil))) :=
  pg_tup hc (pgs_cons (pg_name hN hi hx hf) (pgs_cons (pg_pair hc hN hj hl hy hz hf2 hf3 hn' hst' hs' hs2') pgs_nil hs2) hs) hn hst
/-! ### pairs as tables, of data -/
def valD (kds : List (Key × PyData)) (k : Key) : Option PyData := (kds.find? fun kv => decide (kv.1 = k)).map (·.2)
def putD (kds : List (Key × PyData)) (k : Key) (d : PyData) : List (Key × PyData) :=
  if (kds.any fun kv => decide (kv.1 = k)) = true then kds.map (fun kv => if kv.1 = k then (kv.1, d) else kv) else kds ++ [(k, d)]
def dropD (kds : List (Key × PyData)) (k : Key) : List (Key × PyData) := kds.filter fun kv => decide (kv.1 ≠ k)
section
variable {K : PySem.W.Frag} {P : List Pf}
theorem keys_cons {p : Key × V} {kvs : List (Key × V)} {q : Key × PyData} {kds : List (Key × PyData)} (h : (p :: kvs).map Prod.fst = (q :: kds).map Prod.fst) : p.1 = q.1 ∧ kvs.map Prod.fst = kds.map Prod.fst := by
  simpa using h
theorem valV_isSome : ∀ {kvs : List (Key × V)} {kds : List (Key × PyData)} (k : Key), kvs.map Prod.fst = kds.map Prod.fst → (valV kvs k).isSome = (valD kds k).isSome
  | [], [], _, _ => rfl
  | [], _ :: _, _, h => by simp at h
  | _ :: _, [], _, h => by simp at h
  | p :: kvs, q :: kds, k, h => by
    obtain ⟨h1, h2⟩ := keys_cons h
    have ih := valV_isSome k h2
    by_cases e : p.1 = k
    · have e2 : q.1 = k := h1 ▸ e
      simp [valV, valD, List.find?_cons, e, e2]
    · have e2 : ¬ q.1 = k := h1 ▸ e
      simp only [valV, valD] at ih
      simp [valV, valD, List.find?_cons, e, e2, ih]
theorem valV_dp {M : Hp} : ∀ {kvs : List (Key × V)} {kds : List (Key × PyData)} {k : Key} {v : V} {d : PyData}, kvs.map Prod.fst = kds.map Prod.fst → DpAll K M (kvs.map Prod.snd) (kds.map Prod.snd) → valV kvs k = some v → valD kds k = some d → Dp K M v d
  | [], _, k, v, d, _, _, e, _ => by simp [valV] at e
  | _ :: _, [], _, _, _, h, _, _, _ => by simp at h
  | p :: kvs, q :: kds, k, v, d, h, hd, e1, e2 => by
    obtain ⟨h1, h2⟩ := keys_cons h
    cases hd with
    | cons x y =>
      by_cases e : p.1 = k
      · have e' : q.1 = k := h1 ▸ e
        simp [valV, List.find?_cons, e] at e1
        simp [valD, List.find?_cons, e'] at e2
        subst e1; subst e2
        exact x
      · have e' : ¬ q.1 = k := h1 ▸ e
        refine valV_dp (k := k) h2 y ?_ ?_
        · simpa [valV, List.find?_cons, e] using e1
        · simpa [valD, List.find?_cons, e'] using e2
theorem Dv.val {kvs : List (Key × V)} {kds : List (Key × PyData)} {k : Key} {v : V} {d : PyData} (x : Dv K P (kvs.map Prod.snd) (kds.map Prod.snd)) (hk : kvs.map Prod.fst = kds.map Prod.fst) (e1 : valV kvs k = some v) (e2 : valD kds k = some d) : Dv1 K P v d := fun M h => valV_dp hk (x M h) e1 e2
theorem valV_of {kvs : List (Key × V)} {kds : List (Key × PyData)} {k : Key} {d : PyData} (hk : kvs.map Prod.fst = kds.map Prod.fst) (e : valD kds k = some d) : ∃ v, valV kvs k = some v := by
  have := valV_isSome k hk
  rw [e] at this
  exact Option.isSome_iff_exists.mp this
theorem valV_ofN {kvs : List (Key × V)} {kds : List (Key × PyData)} {k : Key} (hk : kvs.map Prod.fst = kds.map Prod.fst) (e : valD kds k = none) : valV kvs k = none := by
  have := valV_isSome k hk
  rw [e] at this
  exact Option.not_isSome_iff_eq_none.mp (by rw [this]; decide)
theorem any_keys : ∀ {kvs : List (Key × V)} {kds : List (Key × PyData)} (k : Key), kvs.map Prod.fst = kds.map Prod.fst → (kvs.any fun kv => decide (kv.1 = k)) = (kds.any fun kv => decide (kv.1 = k))
  | [], [], _, _ => rfl
  | [], _ :: _, _, h => by simp at h
  | _ :: _, [], _, h => by simp at h
  | p :: kvs, q :: kds, k, h => by
    obtain ⟨h1, h2⟩ := keys_cons h
    rw [List.any_cons, List.any_cons, any_keys k h2, h1]
theorem putK_fst {kvs : List (Key × V)} {kds : List (Key × PyData)} (hk : kvs.map Prod.fst = kds.map Prod.fst) (k : Key) (v : V) (d : PyData) : (putK kvs k v).map Prod.fst = (putD kds k d).map Prod.fst := by
  have e : ∀ {α : Type} (y : α) (l : List (Key × α)), (l.map fun kv => if kv.1 = k then (kv.1, y) else kv).map Prod.fst = l.map Prod.fst := fun y l => by
    rw [List.map_map]
    refine List.map_congr_left fun kv _ => ?_
    simp only [Function.comp]
    split <;> rfl
  unfold putK putD
  rw [any_keys k hk]
  split
  · rw [e, e, hk]
  · rw [List.map_append, List.map_append, hk]; rfl
theorem put_dp {M : Hp} : ∀ {kvs : List (Key × V)} {kds : List (Key × PyData)} {k : Key} {v : V} {d : PyData}, kvs.map Prod.fst = kds.map Prod.fst → DpAll K M (kvs.map Prod.snd) (kds.map Prod.snd) → Dp K M v d →
    DpAll K M ((kvs.map fun kv => if kv.1 = k then (kv.1, v) else kv).map Prod.snd) ((kds.map fun kv => if kv.1 = k then (kv.1, d) else kv).map Prod.snd)
  | [], [], _, _, _, _, _, _ => .nil
  | [], _ :: _, _, _, _, h, _, _ => by simp at h
  | _ :: _, [], _, _, _, h, _, _ => by simp at h
  | p :: kvs, q :: kds, k, v, d, h, hd, x => by
    obtain ⟨h1, h2⟩ := keys_cons h
    cases hd with
    | cons a b =>
      have ih := put_dp (k := k) h2 b x
      simp only [List.map_cons]
      refine .cons ?_ ih
      by_cases e : p.1 = k
      · rw [if_pos e, if_pos (h1 ▸ e)]; exact x
      · rw [if_neg e, if_neg (h1 ▸ e)]; exact a
theorem Dv.put {kvs : List (Key × V)} {kds : List (Key × PyData)} {k : Key} {v : V} {d : PyData} (x : Dv K P (kvs.map Prod.snd) (kds.map Prod.snd)) (hk : kvs.map Prod.fst = kds.map Prod.fst) (y : Dv1 K P v d) : Dv K P ((putK kvs k v).map Prod.snd) ((putD kds k d).map Prod.snd) := fun M h => by
  unfold putK putD
  rw [any_keys k hk]
  split
  · exact put_dp hk (x M h) (y M h)
  · rw [List.map_append, List.map_append]
    exact L2.DpAll.app' (x M h) (.cons (y M h) .nil)
theorem dropK_fst : ∀ {kvs : List (Key × V)} {kds : List (Key × PyData)} (k : Key), kvs.map Prod.fst = kds.map Prod.fst → (dropK kvs k).map Prod.fst = (dropD kds k).map Prod.fst
  | [], [], _, _ => rfl
  | [], _ :: _, _, h => by simp at h
  | _ :: _, [], _, h => by simp at h
  | p :: kvs, q :: kds, k, h => by
    obtain ⟨h1, h2⟩ := keys_cons h
    have ih := dropK_fst k h2
    unfold dropK dropD at ih ⊢
    rw [List.filter_cons, List.filter_cons, h1]
    split
    · rw [List.map_cons, List.map_cons, ih, h1]
    · exact ih
theorem drop_dp {M : Hp} : ∀ {kvs : List (Key × V)} {kds : List (Key × PyData)} {k : Key}, kvs.map Prod.fst = kds.map Prod.fst → DpAll K M (kvs.map Prod.snd) (kds.map Prod.snd) → DpAll K M ((dropK kvs k).map Prod.snd) ((dropD kds k).map Prod.snd)
  | [], [], _, _, _ => .nil
  | [], _ :: _, _, h, _ => by simp at h
  | _ :: _, [], _, h, _ => by simp at h
  | p :: kvs, q :: kds, k, h, hd => by
    obtain ⟨h1, h2⟩ := keys_cons h
    cases hd with
    | cons a b =>
      have ih := drop_dp (k := k) h2 b
      unfold dropK dropD at ih ⊢
      rw [List.filter_cons, List.filter_cons, h1]
      split
      · exact .cons a ih
      · exact ih
theorem Dv.drop' {kvs : List (Key × V)} {kds : List (Key × PyData)} {k : Key} (x : Dv K P (kvs.map Prod.snd) (kds.map Prod.snd)) (hk : kvs.map Prod.fst = kds.map Prod.fst) : Dv K P ((dropK kvs k).map Prod.snd) ((dropD kds k).map Prod.snd) := fun M h => drop_dp hk (x M h)
/-! rows as a table -/
theorem valD_rows {α : Type} (key : α → Int) (dat : α → PyData) (rs : List α) (n : Int) : valD (rs.map fun r => (Sum.inl (key r), dat r)) (Sum.inl n) = (rs.find? fun r => decide (key r = n)).map dat := by
  unfold valD
  rw [List.find?_map, Option.map_map]
  congr 1
  congr 1
  funext r
  simp [Function.comp]
theorem dropD_rows {α : Type} (key : α → Int) (dat : α → PyData) (rs : List α) (n : Int) : dropD (rs.map fun r => (Sum.inl (key r), dat r)) (Sum.inl n) = (rs.filter fun r => decide (key r ≠ n)).map fun r => (Sum.inl (key r), dat r) := by
  unfold dropD
  rw [List.filter_map]
  congr 1
  congr 1
  funext r
  simp [Function.comp]
theorem putD_new {kds : List (Key × PyData)} {k : Key} {d : PyData} (h : valD kds k = none) : putD kds k d = kds ++ [(k, d)] := by
  unfold putD
  rw [if_neg]
  intro e
  obtain ⟨x, hx, he⟩ := List.any_eq_true.mp e
  unfold valD at h
  rw [Option.map_eq_none_iff, List.find?_eq_none] at h
  exact h x hx he
theorem putD_rows {α : Type} (key : α → Int) (dat : α → PyData) (rs : List α) (n : Int) (d : PyData) (f : α → α) (hin : ∃ r ∈ rs, key r = n) (hk : ∀ r, key (f r) = key r) (hd : ∀ r ∈ rs, key r = n → dat (f r) = d) (ho : ∀ r ∈ rs, key r ≠ n → f r = r) :
    putD (rs.map fun r => (Sum.inl (key r), dat r)) (Sum.inl n) d = (rs.map f).map fun r => (Sum.inl (key r), dat r) := by
  unfold putD
  rw [if_pos]
  · rw [List.map_map, List.map_map]
    refine List.map_congr_left fun r hr => ?_
    simp only [Function.comp]
    by_cases e : key r = n
    · rw [if_pos (by rw [e]), hk, hd r hr e]
    · rw [if_neg (fun z => e (by injection z)), ho r hr e]
  · obtain ⟨r, hr, e⟩ := hin
    rw [List.any_map]
    exact List.any_eq_true.mpr ⟨r, hr, by simp [Function.comp, e]⟩
end
/-! ### walker's facts -/
theorem DGet.ki {H : Hp} {a : Addr} {kvs : List (Key × V)} {n : Int} {o : Option V} (e : H a = some (.dK kvs)) (h : valV kvs (Sum.inl n) = o) : DGet H a (.int n) o := h ▸ DGet.k (k := Sum.inl n) e
theorem DGet.kiF {H : Hp} {a : Addr} {kvs : List (Key × V)} {n : Int} {o : Option V} {od : Obj} (e : H a = some (.frz od (.dK kvs))) (h : valV kvs (Sum.inl n) = o) : DGet H a (.int n) o := h ▸ .inl ⟨kvs, Sum.inl n, .inr ⟨od, e⟩, rfl, rfl⟩
theorem DPut.ki {H : Hp} {a : Addr} {kvs : List (Key × V)} {n : Int} {v : V} (e : H a = some (.dK kvs)) (hl : kvs.length < sizeLine) : DPut H a (.int n) v (upd H a (.dK (putK kvs (Sum.inl n) v))) := DPut.k (k := Sum.inl n) e hl
theorem at0 (v : V) (l : List V) : atI (v :: l) 0 = some v := by
  have h := atI_nat (xs := v :: l) (j := 0) (v := v) rfl
  exact h
theorem at1 (u v : V) (l : List V) : atI (u :: v :: l) 1 = some v := by
  have h := atI_nat (xs := u :: v :: l) (j := 1) (v := v) rfl
  exact h
theorem at2 (t u v : V) (l : List V) : atI (t :: u :: v :: l) 2 = some v := by
  have h := atI_nat (xs := t :: u :: v :: l) (j := 2) (v := v) rfl
  exact h
theorem isSome_ofV {o : Option V} {v : V} (h : o = some v) : o.isSome = true := by rw [h]; rfl
theorem kV_int {n : Int} : V.int n = kV (Sum.inl n) := rfl
/-! ### locks at which the walker stops -/
def tLockS (t : TS) : TS := fun D σ H => Stop (tLock t D σ H)
def tLockES (t : TE) : TE := fun σ H Q => Stop (tLockE t σ H Q)
theorem tLockS_eq (t : TS) : tLockS t = tLock t := by funext D σ H; exact stop_eq
theorem tLockES_eq (t : TE) : tLockES t = tLockE t := by funext σ H Q; exact stop_eq
theorem ps_lockS {X : Cx} {st : Stmt} {t : TS} (h : PS X st t) : PS X st (tLockS t) := by rw [tLockS_eq]; exact ps_lock h
theorem pe_lockS {X : Cx} {e : Expr} {t : TE} (h : PE X e t) : PE X e (tLockES t) := by rw [tLockES_eq]; exact pe_lock h
variable {K : PySem.W.Frag} {H H1 M : Hp} {L L' R B : List (Addr × Ob)} {P P' : List Pf} {a d : Addr} {u : HO}
theorem Own.lockE {t : TE} {σ : L2.St} {Q : VK} (h : Own K H L P) (m : (d, Ob.raw u) ∈ L) (hm : Mut (some u)) (k : ∀ (od : Obj) (H1 : Hp), (∀ L', At L d (.raw (.frz od u)) L' → Own K H1 L' P) → t σ H1 fun v H' => H' d = some (.frz od u) ∧ Q v (upd H' d u)) : tLockES t σ H Q :=
  ⟨⟨d, u, h.raw m, hm, fun od => k od _ fun L' m' => h.set m' rfl⟩⟩
theorem Own.lockS {t : TS} {σ : L2.St} {D : L2.Ends} (h : Own K H L P) (m : (d, Ob.raw u) ∈ L) (hm : Mut (some u)) (k : ∀ (od : Obj) (H1 : Hp), (∀ L', At L d (.raw (.frz od u)) L' → Own K H1 L' P) →
    t ⟨fun σ' H' => H' d = some (.frz od u) ∧ D.nx σ' (upd H' d u), fun v H' => H' d = some (.frz od u) ∧ D.rt v (upd H' d u), fun σ' H' => H' d = some (.frz od u) ∧ D.bk σ' (upd H' d u), fun σ' H' => H' d = some (.frz od u) ∧ D.ct σ' (upd H' d u)⟩ σ H1) : tLockS t D σ H :=
  ⟨⟨d, u, h.raw m, hm, fun od => k od _ fun L' m' => h.set m' rfl⟩⟩
/-! ### a tuple of any data opened -/
theorem Own.opnD {v : V} {ds : List PyData} (h : Own K H L P) (x : Dv1 K P v (.tuple ds)) : ∃ t vs, v = .ref t ∧ vs.length = ds.length ∧ Own K H L (.sq t vs :: .dp vs ds :: P) := by
  obtain ⟨M, nd, hl, hs, hp⟩ := h.ex
  cases x M hp with
  | @tup t xs _ hq ha =>
    refine ⟨t, xs, rfl, ha.len, M, nd, hl, hs, fun q hq' => ?_⟩
    rcases List.mem_cons.mp hq' with rfl | hq'
    · exact hq
    rcases List.mem_cons.mp hq' with rfl | hq'
    · exact ha
    · exact hp q hq'
theorem Own.opn2 {v : V} {x y : PyData} (h : Own K H L P) (q : Dv1 K P v (.tuple [x, y])) : ∃ t a b, v = .ref t ∧ Own K H L (.sq t [a, b] :: .dp [a] [x] :: .dp [b] [y] :: P) := by
  obtain ⟨t, vs, e, hl, o⟩ := h.opnD q
  match vs, hl with
  | [a, b], _ =>
    refine ⟨t, a, b, e, ?_⟩
    have dv : Dv K (.sq t [a, b] :: .dp [a, b] [x, y] :: P) [a, b] [x, y] := Dv.of (List.mem_cons_of_mem _ List.mem_cons_self)
    have o2 := o.dv1 dv.tl.hd
    have o3 := o2.dv1 (v := a) (d := x) (fun M hM => dv.hd M fun q hq => hM q (List.mem_cons_of_mem _ hq))
    refine o3.sub (Sb.refl _) fun r hr => ?_
    simp only [List.mem_cons] at hr ⊢
    rcases hr with rfl | rfl | rfl | hr
    · simp
    · simp
    · simp
    · simp [hr]
theorem Dv1.mono {v : V} {d : PyData} (h : Dv1 K P v d) (s : Ps P P') : Dv1 K P' v d := fun M q => h M fun r hr => q r (s r hr)
theorem Dv.mono {vs : List V} {ds : List PyData} (h : Dv K P vs ds) (s : Ps P P') : Dv K P' vs ds := fun M q => h M fun r hr => q r (s r hr)
theorem Dv1.intD {v : V} {i : Int} (h : Dv1 K P v (.int i)) (o : Own K H L P) : v = .int i := by
  cases o.one h with | int _ => rfl
abbrev rMax2 : List V → Hp → VK → Prop := fun xs H Q => ∃ i j, xs = [.int i, .int j] ∧ Q (.int (if j > i then j else i)) H
/-! ### comprehensions of dicts -/
section
variable {g : TG} {te tk tv : TE} {tt : TT} {wv : List Nat} {σ : L2.St} {D : Addr} {Qd : Hp → Prop}
theorem dc_it {J : It} {n : Nat} {G : Hp → Prop} {Y : Nat → Hp → V → Hp → Prop} (w : Walk J n G Y) (Pv : Nat → Hp → Prop) (h0 : Pv 0 (upd H1 D (.dK []))) (hG : ∀ i H, i ≤ n → Pv i H → G H)
    (hs : ∀ i x H H', i < n → Pv i H → Y i H x H' → g x (wipe σ wv) H' fun σ2 H2 => wipe σ2 wv = wipe σ wv ∧ tt σ2 H2 fun b H3 =>
      if b = true then tk σ2 H3 fun y H4 => tv σ2 H4 fun z H5 => ∃ kvs k, y = kV k ∧ H5 D = some (.dK kvs) ∧ kvs.length < sizeLine ∧ Pv (i + 1) (upd H5 D (.dK (putK kvs k z))) else Pv (i + 1) H3) (hd : ∀ H, Pv n H → Qd H) :
    ∃ W : Nat → Nat → Hp → Prop, (∃ m, W 0 m (upd H1 D (.dK []))) ∧ ∀ i m H, W i m H →
      (J.stop i H ∧ Qd H) ∨ (J.go i H ∧ ∃ Nx : Hp → Prop, (∀ H', Nx H' → ∃ m', m' < m ∧ W (i + 1) m' H') ∧ ∀ x H', J.yld i H x H' → g x (wipe σ wv) H' fun σ2 H2 => wipe σ2 wv = wipe σ wv ∧ tt σ2 H2 fun b H3 =>
        if b = true then tk σ2 H3 fun y H4 => tv σ2 H4 fun z H5 => ∃ kvs k, y = kV k ∧ H5 D = some (.dK kvs) ∧ kvs.length < sizeLine ∧ Nx (upd H5 D (.dK (putK kvs k z))) else Nx H3) := by
  refine ⟨fun i m H => m = n - i ∧ i ≤ n ∧ Pv i H, ⟨n, by simp, Nat.zero_le _, h0⟩, ?_⟩
  rintro i m H ⟨rfl, hi, p⟩
  have q := hG i H hi p
  by_cases hlt : i < n
  · refine .inr ⟨w.goes i H hlt q, Pv (i + 1), fun H' p' => ⟨n - (i + 1), by omega, rfl, hlt, p'⟩, fun x H' y => hs i x H H' hlt p (w.yields i H x H' hlt q y)⟩
  · have e : i = n := by omega
    subst e
    exact .inl ⟨w.stops H q, hd H p⟩
/-- a new dict by a walk, sifted; its keys are all different -/
theorem dc_siftW {α : Type} {J : It} {G : Hp → Prop} {Y : Nat → Hp → V → Hp → Prop} (zs : List α) (key : α → Int) (dat : α → PyData) (t : α → Bool) (nd : (zs.map key).Nodup) (w : Walk J zs.length G Y) (h : Own K H1 L P) (hD : H1 D = none) (hz : zs.length ≤ 10000)
    (ha : ∀ (H : Hp) (L' : List (Addr × Ob)) (P' : List Pf), (∀ p ∈ L, p ∈ L') → Ps P P' → Own K H L' P' → G H)
    (hs : ∀ (i : Nat) (z : α) (x : V) (H H' : Hp) (P' : List Pf) (kds : List (Key × PyData)) (Qn : Hp → Prop) (Qy : V → V → Hp → Prop), zs[i]? = some z → Y i H x H' → Ps P P' → Own K H ((D, .D kds) :: L) P' →
      (t z = false → ∀ (H'' : Hp) (P'' : List Pf), Ps P' P'' → Own K H'' ((D, .D kds) :: L) P'' → Qn H'') →
      (t z = true → ∀ (y : V) (H'' : Hp) (P'' : List Pf), Ps P' P'' → Own K H'' ((D, .D kds) :: L) P'' → Dv1 K P'' y (dat z) → Qy (.int (key z)) y H'') →
      g x (wipe σ wv) H' fun σ2 H2 => wipe σ2 wv = wipe σ wv ∧ tt σ2 H2 fun b H3 => if b = true then tk σ2 H3 fun y H4 => tv σ2 H4 fun z H5 => Qy y z H5 else Qn H3)
    (hd : ∀ (H' : Hp) (P' : List Pf), Ps P P' → Own K H' ((D, .D ((zs.filter t).map fun z => (Sum.inl (key z), dat z))) :: L) P' → Qd H') :
    ∃ W : Nat → Nat → Hp → Prop, (∃ m, W 0 m (upd H1 D (.dK []))) ∧ ∀ i m H, W i m H →
      (J.stop i H ∧ Qd H) ∨ (J.go i H ∧ ∃ Nx : Hp → Prop, (∀ H', Nx H' → ∃ m', m' < m ∧ W (i + 1) m' H') ∧ ∀ x H', J.yld i H x H' → g x (wipe σ wv) H' fun σ2 H2 => wipe σ2 wv = wipe σ wv ∧ tt σ2 H2 fun b H3 =>
        if b = true then tk σ2 H3 fun y H4 => tv σ2 H4 fun z H5 => ∃ kvs k, y = kV k ∧ H5 D = some (.dK kvs) ∧ kvs.length < sizeLine ∧ Nx (upd H5 D (.dK (putK kvs k z))) else Nx H3) := by
  refine dc_it w (fun i H => ∃ P', Ps P P' ∧ Own K H ((D, .D (((zs.take i).filter t).map fun z => (Sum.inl (key z), dat z))) :: L) P') ⟨P, Ps.refl, ?_⟩ (fun i H _ ⟨P', s, q⟩ => ha H _ P' (fun p m => List.mem_cons_of_mem _ m) s q) (fun i x H H' hi ⟨P', s, q⟩ y => ?_) (fun H ⟨P', s, q⟩ => hd H P' s (by rw [List.take_of_length_le (Nat.le_refl _)] at q; exact q))
  · have h2 := h.new hD (o := .dK []) rfl
    exact h2.closeD (kvs := []) List.mem_cons_self (by rw [List.take_zero]; rfl) (by rw [List.take_zero]; exact Dv.nil) .head
  · have et : zs.take (i + 1) = zs.take i ++ [zs[i]] := by rw [List.take_add_one, List.getElem?_eq_getElem hi]; rfl
    refine hs i zs[i] x H H' P' _ _ _ (List.getElem?_eq_getElem hi) y s q (fun tn H'' P'' s' q' => ⟨P'', fun r m => s' r (s r m), ?_⟩) (fun ty y H'' P'' s' q' dv => ?_)
    · rw [et, List.filter_append, List.filter_cons, tn]; simpa using q'
    · obtain ⟨kvs, hk, o1⟩ := q'.openD List.mem_cons_self
      have hlen : kvs.length = (((zs.take i).filter t).map fun z => ((Sum.inl (key z) : Key), dat z)).length := by simpa using congrArg List.length hk
      have hraw : H'' D = some (.dK kvs) := (o1 _ .head).raw List.mem_cons_self
      refine ⟨kvs, Sum.inl (key zs[i]), rfl, hraw, size_lt (by
        rw [hlen, List.length_map]
        exact Nat.le_trans (List.length_filter_le _ _) (by rw [List.length_take]; omega)), P'', fun r m => s' r (s r m), ?_⟩
      have nv : valD (((zs.take i).filter t).map fun z => (Sum.inl (key z), dat z)) (Sum.inl (key zs[i])) = none := by
        rw [valD_rows, Option.map_eq_none_iff, List.find?_eq_none]
        intro r hr e
        have hr' := (List.mem_filter.mp hr).1
        have e' : key r = key zs[i] := of_decide_eq_true e
        have nd2 : ((zs.take (i + 1)).map key).Nodup := (nd.sublist ((List.take_sublist _ _).map key))
        rw [et, List.map_append, List.nodup_append] at nd2
        exact nd2.2.2 (key r) (List.mem_map_of_mem hr') (key zs[i]) (by simp) e'
      have e2 : ((zs.take (i + 1)).filter t).map (fun z => ((Sum.inl (key z) : Key), dat z)) = putD (((zs.take i).filter t).map fun z => (Sum.inl (key z), dat z)) (Sum.inl (key zs[i])) (dat zs[i]) := by
        rw [putD_new nv, et, List.filter_append, List.filter_cons, ty]; simp
      rw [e2]
      have q3 := o1 _ .head
      refine Own.sub (q3.setO (o := .dK (putK kvs (Sum.inl (key zs[i])) y)) (ob := .D (putD (((zs.take i).filter t).map fun z => (Sum.inl (key z), dat z)) (Sum.inl (key zs[i])) (dat zs[i]))) .head rfl fun M hp => ⟨putK kvs (Sum.inl (key zs[i])) y, upd_same, putK_fst hk _ _ _, ?_⟩) (Sb.refl _) (Ps.skip Ps.refl)
      exact (Dv.put (P := .dp (kvs.map Prod.snd) ((((zs.take i).filter t).map fun z => ((Sum.inl (key z) : Key), dat z)).map Prod.snd) :: P'') (Dv.of List.mem_cons_self) hk (fun M h => dv M fun q hq => h q (List.mem_cons_of_mem _ hq))) M hp
end
theorem walk_ints {K : PySem.W.Frag} {a : Addr} {ns : List Int} : Walk (Itl K a) ns.length (fun H => SqL K H a (ns.map V.int)) (YAt (ns.map V.int)) := by
  have w := walk_list (K := K) (a := a) (xs := ns.map V.int)
  rw [List.length_map] at w
  exact w
/-! ### sorted lists of ints -/
theorem sorted_eq : ∀ {xs ys : List Int}, xs.Perm ys → xs.Pairwise (· ≤ ·) → ys.Pairwise (· ≤ ·) → xs = ys
  | [], ys, p, _, _ => by
    have := p.length_eq
    simp at this
    exact (List.eq_nil_of_length_eq_zero this.symm).symm
  | x :: xs, [], p, _, _ => by
    have := p.length_eq
    simp at this
  | x :: xs, y :: ys, p, hx, hy => by
    have h1 := List.pairwise_cons.mp hx
    have h2 := List.pairwise_cons.mp hy
    have e : x = y := by
      have a : x ∈ y :: ys := p.mem_iff.mp List.mem_cons_self
      have b : y ∈ x :: xs := p.mem_iff.mpr List.mem_cons_self
      rcases List.mem_cons.mp a with a | a
      · exact a
      rcases List.mem_cons.mp b with b | b
      · exact b.symm
      · have := h1.1 y b
        have := h2.1 x a
        omega
    subst e
    rw [sorted_eq (List.Perm.cons_inv p) h1.2 h2.2]
/-- the rising list -/
def srt (xs : List Int) : List Int := xs.mergeSort (fun a b => decide (a ≤ b))
theorem srt_perm (xs : List Int) : (srt xs).Perm xs := List.mergeSort_perm _ _
theorem srt_pw (xs : List Int) : (srt xs).Pairwise (· ≤ ·) := by
  have := List.pairwise_mergeSort (le := fun a b : Int => decide (a ≤ b)) (fun a b c h1 h2 => by simp at h1 h2 ⊢; omega) (fun a b => by simp; omega) xs
  exact this.imp fun h => by simpa using h
theorem srt_of {xs ys : List Int} (p : ys.Perm xs) (h : ys.Pairwise (· ≤ ·)) : ys = srt xs := sorted_eq (p.trans (srt_perm xs).symm) h (srt_pw xs)
theorem srt_eq {xs ys : List Int} (p : xs.Perm ys) : srt xs = srt ys := sorted_eq ((srt_perm xs).trans (p.trans (srt_perm ys).symm)) (srt_pw _) (srt_pw _)
theorem srt_len (xs : List Int) : (srt xs).length = xs.length := (srt_perm xs).length_eq
theorem srt_mem {xs : List Int} {x : Int} : x ∈ srt xs ↔ x ∈ xs := (srt_perm xs).mem_iff
theorem srt_filter (xs : List Int) (p : Int → Bool) : (srt xs).filter p = srt (xs.filter p) := srt_of ((srt_perm xs).filter p) ((srt_pw xs).filter p)
theorem srt_rev {xs ys : List Int} (p : ys.Perm xs) (h : ys.Pairwise (· ≥ ·)) : ys = (srt xs).reverse := by
  have e : ys.reverse = srt xs := srt_of ((List.reverse_perm ys).trans p) (List.pairwise_reverse.mpr h)
  rw [← e, List.reverse_reverse]
/-! ### a dict beside an empty one -/
theorem op_dE {X : Cx} (hu : X.A.units < cLine) (op : CmpOp) (t : Bool → Bool) (hop : (op = .Eq ∧ t = id) ∨ (op = .NotEq ∧ t = not)) : OpR X (compareOp op) (fun x y H Q => ∃ (a b : Addr) (kvs : List (Key × V)), x = .ref a ∧ y = .ref b ∧ H a = some (.dK kvs) ∧ H b = some (.dK []) ∧ Q (.bl (t kvs.isEmpty)) H) := by
  intro pins s σ H x y v u Q I rx ry hh
  obtain ⟨a, b, kvs, rfl, rfl, e1, e2, q⟩ := hh
  have rx' : v = Value.ref a := rx
  have ry' : u = Value.ref b := ry
  subst rx' ry'
  obtain ⟨_, n1, v1, r1, d1⟩ := (show ObjOk X.prog X.w H s.heap a (.dK kvs) from I.hok a _ e1)
  obtain ⟨_, n2, v2, r2, d2⟩ := (show ObjOk X.prog X.w H s.heap b (.dK []) from I.hok b _ e2)
  have l2 : v2.length = 0 := by rw [← r2.length]; rfl
  have l1 : v1.length = kvs.length := r1.length.symm
  have hz : v1.length = v2.length → kvs = [] := fun e => List.eq_nil_of_length_eq_zero (by omega)
  have hh : v1.length = v2.length → PySem.W.KeqHits X.A.in1 s v2 v1 true := fun e => by
    have := hz e
    subst this
    exact hits_all r2 r1 (fun p hp => nomatch hp)
  have eb : (v1.length == v2.length && true) = kvs.isEmpty := by
    rw [l1, l2]
    cases kvs <;> simp
  rcases hop with ⟨rfl, rfl⟩ | ⟨rfl, rfl⟩
  · exact PySem.W.keq_eq (r := true) n1 n2 d1 d2 hu hh (fin_bl I q (by rw [eb]; rfl))
  · exact PySem.W.keq_ne (r := true) n1 n2 d1 d2 hu hh (fin_bl I q (by rw [eb]))
theorem op_neE {X : Cx} (hu : X.A.units + 64 < cLine) : OpR X (compareOp .NotEq) (fun x y H Q => ∃ (a b : Addr) (kvs : List (Key × V)), x = .ref a ∧ y = .ref b ∧ H a = some (.dK kvs) ∧ H b = some (.dK []) ∧ Q (.bl (!kvs.isEmpty)) H) := op_dE (by omega) .NotEq not (.inr ⟨rfl, rfl⟩)
/-! ### strictly rising lists -/
theorem ris_eq : ∀ {xs ys : List Int}, (∀ z, z ∈ xs ↔ z ∈ ys) → xs.Pairwise (· < ·) → ys.Pairwise (· < ·) → xs = ys
  | [], [], _, _, _ => rfl
  | [], y :: ys, h, _, _ => nomatch (h y).mpr List.mem_cons_self
  | x :: xs, [], h, _, _ => nomatch (h x).mp List.mem_cons_self
  | x :: xs, y :: ys, h, hx, hy => by
    have h1 := List.pairwise_cons.mp hx
    have h2 := List.pairwise_cons.mp hy
    have e : x = y := by
      rcases List.mem_cons.mp ((h x).mp List.mem_cons_self) with a | a
      · exact a
      rcases List.mem_cons.mp ((h y).mpr List.mem_cons_self) with b | b
      · exact b.symm
      · have := h1.1 y b
        have := h2.1 x a
        omega
    subst e
    refine congrArg (x :: ·) (ris_eq (fun z => ?_) h1.2 h2.2)
    have := h z
    simp only [List.mem_cons] at this
    constructor
    · intro hz
      rcases this.mp (.inr hz) with e | e
      · have := h1.1 z hz; omega
      · exact e
    · intro hz
      rcases this.mpr (.inr hz) with e | e
      · have := h2.1 z hz; omega
      · exact e
/-- put in where it belongs, unless it is there -/
def insU (x : Int) : List Int → List Int
  | [] => [x]
  | y :: ys => if x < y then x :: y :: ys else if x = y then y :: ys else y :: insU x ys
/-- each once, rising -/
def uq (xs : List Int) : List Int := xs.foldr insU []
theorem insU_mem {x z : Int} : ∀ {l : List Int}, z ∈ insU x l ↔ z = x ∨ z ∈ l
  | [] => by simp [insU]
  | y :: ys => by
    unfold insU
    split
    · simp
    · split
      · rename_i h; subst h; simp
      · simp [insU_mem (l := ys)]
        constructor
        · rintro (h | h | h) <;> simp [h]
        · rintro (h | h | h) <;> simp [h]
theorem insU_pw {x : Int} : ∀ {l : List Int}, l.Pairwise (· < ·) → (insU x l).Pairwise (· < ·)
  | [], _ => by simp [insU]
  | y :: ys, h => by
    have h1 := List.pairwise_cons.mp h
    unfold insU
    split
    · rename_i hl
      refine List.pairwise_cons.mpr ⟨fun z hz => ?_, h⟩
      rcases List.mem_cons.mp hz with rfl | hz
      · exact hl
      · have := h1.1 z hz; omega
    · split
      · exact h
      · refine List.pairwise_cons.mpr ⟨fun z hz => ?_, insU_pw h1.2⟩
        rcases insU_mem.mp hz with rfl | hz
        · omega
        · exact h1.1 z hz
theorem uq_mem {xs : List Int} {z : Int} : z ∈ uq xs ↔ z ∈ xs := by
  induction xs with
  | nil => simp [uq]
  | cons x xs ih => simp only [uq, List.foldr_cons] at ih ⊢; rw [insU_mem, ih, List.mem_cons]
theorem uq_pw (xs : List Int) : (uq xs).Pairwise (· < ·) := by
  induction xs with
  | nil => simp [uq]
  | cons x xs ih => exact insU_pw ih
theorem uq_of {xs ys : List Int} (h : ys.Pairwise (· < ·)) (k : ∀ z, z ∈ ys ↔ z ∈ xs) : ys = uq xs := ris_eq (fun z => by rw [k, uq_mem]) h (uq_pw xs)
theorem insU_len (x : Int) : ∀ l : List Int, (insU x l).length ≤ l.length + 1
  | [] => by simp [insU]
  | y :: ys => by
    have := insU_len x ys
    unfold insU
    split
    · simp
    · split <;> simp <;> omega
theorem uq_len (xs : List Int) : (uq xs).length ≤ xs.length := by
  induction xs with
  | nil => simp [uq]
  | cons x xs ih =>
    simp only [uq, List.foldr_cons, List.length_cons] at ih ⊢
    exact Nat.le_trans (insU_len _ _) (by omega)
end Hx

set_option Elab.async false
set_option linter.all false
set_option maxRecDepth 100000
set_option maxHeartbeats 4000000
/-! enumerate(xs, start=k) over a list or a tuple; lists sifted out of a walk, their items data -/
namespace Hx
open PySem PySem.Spec PyProof.Rows L2
theorem callWith_typeK {M : Model} {A : Around} {E : Value → Shared → Prop} {s : Shared} {env : Env} {pos : Pos} {T : String} {e : Expr} {rest : List Expr} {kws : List Keyword} {Q : Value → Shared → Prop}
    (h : wpAny M A (spliced (backTo pos (starEach (e :: rest) env))) (fun vs s₁ => wpAny M A (evalAll ((backToKw pos (keywordEach kws env)).map (·.2)))
      (fun kvs s₂ => wpAny M A (call (.type T) vs (((backToKw pos (keywordEach kws env)).filterMap (·.1)).zip kvs)) Q E s₂) E s₁) E s)
    (he : backTo pos (starEach (e :: rest) env) = (false, eval e env) :: backTo pos (starEach rest env) := by rfl)
    (hplain : (backTo pos (starEach (e :: rest) env)).any (·.1) = false := by rfl)
    (hall : (backToKw pos (keywordEach kws env)).all (·.1.isSome) = true := by rfl)
    (hkw : (backToKw pos (keywordEach kws env)).any (·.1.isNone) = false := by rfl) :
    wpAny M A (callWith pos (.type T) [] (backTo pos (starEach (e :: rest) env)) (backToKw pos (keywordEach kws env))) Q E s := by
  have h2 : wpAny M A (evalArgs (.type T) true (backTo pos (starEach (e :: rest) env)) (backToKw pos (keywordEach kws env))) (fun a s₁ => wpAny M A (call (.type T) ([] ++ a.pos) a.kw) Q E s₁) E s := by
    rw [he] at h ⊢
    exact evalArgs_kwB hall h
  unfold callWith
  refine wpAny_bind (wpAny_holding (wpAny_mono h2 (fun a s₁ h₁ => wpAny_bind (wpAny_standAt ?_)) fun _ _ x => x))
  simp only [hplain, hkw, Bool.or_false]
  refine wpAny_bind (wpAny_pure ?_)
  exact wpAny_bind (wpAny_mono h₁ (fun r s₂ hr => wpAny_bind (wpAny_holding (wpAny_point (wpAny_pure hr)))) fun _ _ x => x)
/-- the list, the tuple, at a, each item in a new pair, counted from k -/
def IteS (K : PySem.W.Frag) (a : Addr) (k : Int) : It :=
  ⟨fun i H => ∃ (xs : List V) (x : V), SqL K H a xs ∧ xs[i]? = some x, fun i H v H' => ∃ T x, v = .ref T ∧ H T = none ∧ H' = upd H T (.tup [.int (k + (i : Nat)), x]) ∧ ∀ xs, SqL K H a xs → xs[i]? = some x, fun i H => ∃ xs : List V, SqL K H a xs ∧ xs.length = i⟩
def IteT (K : PySem.W.Frag) (a : Addr) (k : Int) : It :=
  ⟨fun i H => ∃ (xs : List V) (x : V), SqT K H a xs ∧ xs[i]? = some x, fun i H v H' => ∃ T x, v = .ref T ∧ H T = none ∧ H' = upd H T (.tup [.int (k + (i : Nat)), x]) ∧ ∀ xs, SqT K H a xs → xs[i]? = some x, fun i H => ∃ xs : List V, SqT K H a xs ∧ xs.length = i⟩
theorem walk_enumS {K : PySem.W.Frag} {a : Addr} {k : Int} {xs : List V} : Walk (IteS K a k) xs.length (fun H => SqL K H a xs) (YPair (fun i => some (.int (k + (i : Nat)))) (fun i => xs[i]?)) := by
  refine ⟨fun i _ hi q => ⟨xs, xs[i], q, by simp [hi]⟩, fun _ q => ⟨xs, q, rfl⟩, fun i H v H' _ q y => ?_⟩
  obtain ⟨T, x, h1, h2, h3, h4⟩ := y
  exact ⟨T, _, x, h1, h2, h3, rfl, h4 xs q⟩
theorem walk_enumT {K : PySem.W.Frag} {a : Addr} {k : Int} {xs : List V} : Walk (IteT K a k) xs.length (fun H => SqT K H a xs) (YPair (fun i => some (.int (k + (i : Nat)))) (fun i => xs[i]?)) := by
  refine ⟨fun i _ hi q => ⟨xs, xs[i], q, by simp [hi]⟩, fun _ q => ⟨xs, q, rfl⟩, fun i H v H' _ q y => ?_⟩
  obtain ⟨T, x, h1, h2, h3, h4⟩ := y
  exact ⟨T, _, x, h1, h2, h3, rfl, h4 xs q⟩
section
variable {P : Program} {w : World} {K : PySem.W.Frag} {elts : List Expr} {kk : Nat} {tpos : Pos}
theorem turn_enumS (a e it : Addr) (k : Int) :
    Turn P w K (.Tuple elts kk tpos) (IteS K a k) [e, it] e (fun i h => (∃ old, IsEnum h e it (k + ((i : Nat) : Int)) old) ∧ h.IsListIter it a i ∧ e ≠ it ∧ a ≠ it ∧ a ≠ e) where
  mem := by simp
  obj := fun i h st b hb => by
    obtain ⟨⟨old, he⟩, ⟨o, ho, hc, hd⟩, _⟩ := st
    have e' : b = e ∨ b = it := by simpa using hb
    rcases e' with z | z
    · rw [z]; exact ⟨_, he, fun v q => nomatch q⟩
    · rw [z]; exact ⟨o, ho, fun v q => by rw [hd] at q; cases q⟩
  keep := fun i h h' st k => let ⟨⟨old, he⟩, hi, hne⟩ := st; ⟨⟨old, k e (by simp) _ he⟩, hi.at fun o q => k it (by simp) o q, hne⟩
  item := by
    intro X hP hw hK hc i pins s σ H E I hf st hg
    subst hP hw hK
    obtain ⟨⟨old, he⟩, hit, hne, hai, hae⟩ := st
    obtain ⟨xs, x, hq, hx⟩ := hg
    obtain ⟨its, rv, p, hz⟩ := I.list hq
    obtain ⟨u, hu, ru⟩ := rv.get hx
    have hel : e < s.heap.objs.size := Heap.lt_size he
    have hil : it < s.heap.objs.size := by obtain ⟨_, q, _⟩ := hit; exact Heap.lt_size q
    have hlt : i < its.toArray.size := by simpa using (List.getElem?_eq_some_iff.mp hu).1
    refine wpAny_pyNext_enum_itemC (Draws.list (show X.A.in1.handled = none from I.ok.hd hc) it a hai its.toArray) he ⟨hit, p.isList⟩ hlt hne (by simp [hne, Ne.symm hae]) fun x' h' tk hP' ho hit' hT hsz hk => ?_
    obtain rfl : x' = u := by
      have h1 : its.toArray[i]? = some x' := hP'
      have h2 : its.toArray[i]? = some u := by simpa using hu
      rw [h1] at h2
      exact Option.some.inj h2
    refine ⟨_, rfl, wpAny_letOwnedTupleGo_enum (s := { s with heap := h', toks := tk + 1 }) ho fun h'' he' sb => ?_⟩
    have hT2 : h''.get? s.heap.objs.size = some { cls := .type "tuple", data := .seq #[.int (k + ((i : Nat) : Int)) tk, x'] } := (sb.2 _ (Nat.ne_of_gt hel)).trans hT
    have new : ObjOk X.prog X.w (upd H s.heap.objs.size (.tup [.int (k + (i : Nat)), x])) h'' s.heap.objs.size (.tup [.int (k + (i : Nat)), x]) :=
      ⟨by show 2 ≤ sizeLine; decide, [.int (k + ((i : Nat) : Int)) tk, x'], .cons ⟨_, rfl⟩ (.cons ru .nil), ⟨_, hT2, rfl, _, rfl⟩⟩
    have I1 : Inv X pins σ (upd H s.heap.objs.size (.tup [.int (k + (i : Nat)), x])) { s with heap := h'', toks := tk + 1 } :=
      I.turnedNew (ch := [e, it]) (fun b ob hb q => (sb.2 b (fun z => hb (by simp [z]))).trans (hk b ob (fun z => hb (by simp [z])) (fun z => hb (by simp [z])) q)) hf (Nat.le_refl _) new
    refine ⟨.ref s.heap.objs.size, _, I1, rfl, ⟨_, x, rfl, I.hok.fresh (Nat.le_refl _), rfl, fun ys hy => by rw [I.list_inj hy hq]; exact hx⟩, ⟨⟨x', ?_⟩, hit'.1.at fun o q => (sb.2 it (Ne.symm hne)).trans q, hne, hai, hae⟩, fun b hb => ?_⟩
    · have e1 : k + ((i + 1 : Nat) : Int) = k + (i : Int) + 1 := by omega
      rw [e1]; exact he'
    · have hb' : b < s.heap.objs.size := by
        have e' : b = e ∨ b = it := by simpa using hb
        rcases e' with z | z
        · rw [z]; exact hel
        · rw [z]; exact hil
      rw [upd_ne (Nat.ne_of_lt hb')]
      exact (hf b hb).1
  done := by
    intro X hP hw hK hc i pins s σ H E I hf st hg
    subst hP hw hK
    obtain ⟨⟨old, he⟩, hit, hne, hai, hae⟩ := st
    obtain ⟨xs, hq, hx⟩ := hg
    obtain ⟨its, rv, p, hz⟩ := I.list hq
    obtain ⟨f0, f1, f2, f3, f4, f5⟩ := hf it (by simp)
    have hl := rv.length
    have hn : i = its.toArray.size := by simp; omega
    subst hn
    exact wpAny_pyNext_enum_endD (Draws.list (show X.A.in1.handled = none from I.ok.hd hc) it a hai its.toArray) he ⟨hit, p.isList⟩ fun h' eb => ⟨rfl, I.turned (t' := s.toks) (fun b o hb q => eb b o hb q) f0 f1 f3 f4 f5⟩
  self := fun A i s Q E st h => let ⟨⟨_, he⟩, _⟩ := st; wpAny_pyIter_enum he h
theorem turn_enumT (a e it : Addr) (k : Int) :
    Turn P w K (.Tuple elts kk tpos) (IteT K a k) [e, it] e (fun i h => (∃ old, IsEnum h e it (k + ((i : Nat) : Int)) old) ∧ h.IsTupleIter it a i ∧ e ≠ it ∧ a ≠ it ∧ a ≠ e) where
  mem := by simp
  obj := fun i h st b hb => by
    obtain ⟨⟨old, he⟩, ⟨o, ho, hc, hd⟩, _⟩ := st
    have e' : b = e ∨ b = it := by simpa using hb
    rcases e' with z | z
    · rw [z]; exact ⟨_, he, fun v q => nomatch q⟩
    · rw [z]; exact ⟨o, ho, fun v q => by rw [hd] at q; cases q⟩
  keep := fun i h h' st k => let ⟨⟨old, he⟩, hi, hne⟩ := st; ⟨⟨old, k e (by simp) _ he⟩, hi.at fun o q => k it (by simp) o q, hne⟩
  item := by
    intro X hP hw hK hc i pins s σ H E I hf st hg
    subst hP hw hK
    obtain ⟨⟨old, he⟩, hit, hne, hai, hae⟩ := st
    obtain ⟨xs, x, hq, hx⟩ := hg
    obtain ⟨its, rv, p, hz⟩ := I.tuple hq
    obtain ⟨u, hu, ru⟩ := rv.get hx
    have hel : e < s.heap.objs.size := Heap.lt_size he
    have hil : it < s.heap.objs.size := by obtain ⟨_, q, _⟩ := hit; exact Heap.lt_size q
    have hlt : i < its.toArray.size := by simpa using (List.getElem?_eq_some_iff.mp hu).1
    refine wpAny_pyNext_enum_itemC (Draws.tuple (show X.A.in1.handled = none from I.ok.hd hc) it a hai its.toArray) he ⟨hit, p⟩ hlt hne (by simp [hne, Ne.symm hae]) fun x' h' tk hP' ho hit' hT hsz hk => ?_
    obtain rfl : x' = u := by
      have h1 : its.toArray[i]? = some x' := hP'
      have h2 : its.toArray[i]? = some u := by simpa using hu
      rw [h1] at h2
      exact Option.some.inj h2
    refine ⟨_, rfl, wpAny_letOwnedTupleGo_enum (s := { s with heap := h', toks := tk + 1 }) ho fun h'' he' sb => ?_⟩
    have hT2 : h''.get? s.heap.objs.size = some { cls := .type "tuple", data := .seq #[.int (k + ((i : Nat) : Int)) tk, x'] } := (sb.2 _ (Nat.ne_of_gt hel)).trans hT
    have new : ObjOk X.prog X.w (upd H s.heap.objs.size (.tup [.int (k + (i : Nat)), x])) h'' s.heap.objs.size (.tup [.int (k + (i : Nat)), x]) :=
      ⟨by show 2 ≤ sizeLine; decide, [.int (k + ((i : Nat) : Int)) tk, x'], .cons ⟨_, rfl⟩ (.cons ru .nil), ⟨_, hT2, rfl, _, rfl⟩⟩
    have I1 : Inv X pins σ (upd H s.heap.objs.size (.tup [.int (k + (i : Nat)), x])) { s with heap := h'', toks := tk + 1 } :=
      I.turnedNew (ch := [e, it]) (fun b ob hb q => (sb.2 b (fun z => hb (by simp [z]))).trans (hk b ob (fun z => hb (by simp [z])) (fun z => hb (by simp [z])) q)) hf (Nat.le_refl _) new
    refine ⟨.ref s.heap.objs.size, _, I1, rfl, ⟨_, x, rfl, I.hok.fresh (Nat.le_refl _), rfl, fun ys hy => by rw [I.tuple_inj hy hq]; exact hx⟩, ⟨⟨x', ?_⟩, hit'.1.at fun o q => (sb.2 it (Ne.symm hne)).trans q, hne, hai, hae⟩, fun b hb => ?_⟩
    · have e1 : k + ((i + 1 : Nat) : Int) = k + (i : Int) + 1 := by omega
      rw [e1]; exact he'
    · have hb' : b < s.heap.objs.size := by
        have e' : b = e ∨ b = it := by simpa using hb
        rcases e' with z | z
        · rw [z]; exact hel
        · rw [z]; exact hil
      rw [upd_ne (Nat.ne_of_lt hb')]
      exact (hf b hb).1
  done := by
    intro X hP hw hK hc i pins s σ H E I hf st hg
    subst hP hw hK
    obtain ⟨⟨old, he⟩, hit, hne, hai, hae⟩ := st
    obtain ⟨xs, hq, hx⟩ := hg
    obtain ⟨its, rv, p, hz⟩ := I.tuple hq
    obtain ⟨f0, f1, f2, f3, f4, f5⟩ := hf it (by simp)
    have hl := rv.length
    have hn : i = its.toArray.size := by simp; omega
    subst hn
    exact wpAny_pyNext_enum_endD (Draws.tuple (show X.A.in1.handled = none from I.ok.hd hc) it a hai its.toArray) he ⟨hit, p⟩ fun h' eb => ⟨rfl, I.turned (t' := s.toks) (fun b o hb q => eb b o hb q) f0 f1 f3 f4 f5⟩
  self := fun A i s Q E st h => let ⟨⟨_, he⟩, _⟩ := st; wpAny_pyIter_enum he h
def iEnumS (K : PySem.W.Frag) (ta tk : TA) : TI := fun σ H R => ta σ H fun vs H1 => tk σ H1 fun zs H2 => ∃ a xs k, vs = [.ref a] ∧ zs = [.int k] ∧ -(2 ^ 62) ≤ k ∧ k < 2 ^ 62 ∧ ((SqL K H2 a xs ∧ R (IteS K a k) H2) ∨ (SqT K H2 a xs ∧ R (IteT K a k) H2))
theorem pi_enumS {X : Cx} {e : Expr} {ta tk : TA} {kws : List Keyword} {p pos tpos : Pos} {elts : List Expr} {kk : Nat} (hg : Gl X "enumerate") (hm : X.mg "enumerate" = none) (ha : PA X [e] ta) (hkw : PK X kws tk)
    (he : backTo pos (starEach (e :: []) X.env) = (false, eval e X.env) :: backTo pos (starEach [] X.env) := by rfl) (hpl : (backTo pos (starEach (e :: []) X.env)).any (·.1) = false := by rfl)
    (hall : (backToKw pos (keywordEach kws X.env)).all (·.1.isSome) = true := by rfl) (hnone : (backToKw pos (keywordEach kws X.env)).any (·.1.isNone) = false := by rfl) (hks : (backToKw pos (keywordEach kws X.env)).filterMap (·.1) = [Str.ofString "start"] := by rfl) :
    PI X (.Tuple elts kk tpos) (.Call (.Name "enumerate" p) [e] kws pos) (iEnumS X.K ta tk) := by
  refine ⟨fun pins s σ H R I h => ?_⟩
  refine wpAny_Call_Name_kw (ld_blt I hg hm boot_enumerate ?_)
  refine callWith_typeK (thn (ha.run pos pins s σ H _ I h) fun us s1 ⟨vs, H1, I1, r1, q1⟩ => thn (hkw.run pos pins s1 σ H1 _ I1 q1) fun ws s2 ⟨zs, H2, I2, r2, q2⟩ => ?_) he hpl hall hnone
  rw [hks]
  obtain ⟨a, xs, k, ex, ez, k0, k1, hq⟩ := q2
  subst ex ez
  have wk : -(2 ^ 63) ≤ k ∧ k < 2 ^ 63 := by omega
  cases r2 with
  | cons rz rr2 =>
  cases rr2
  obtain ⟨t, rfl⟩ := rz
  cases r1 with
  | cons r rr =>
    cases rr
    cases r
    have hle : ∀ b, b = s2.heap.objs.size + 1 ∨ b = s2.heap.objs.size → s2.heap.objs.size ≤ b := fun b e => by
      rcases e with z | z
      · rw [z]; exact Nat.le_add_right _ _
      · rw [z]; exact Nat.le_refl _
    rcases hq with ⟨hq, q⟩ | ⟨hq, q⟩
    · obtain ⟨its, rv, p', hz⟩ := I2.list hq
      have la : a < s2.heap.objs.size := p'.lt
      refine enum_begins_start (begins_list a its.toArray) p'.isList wk.1 wk.2 fun h' he hit hsz hk => wpAny_pyIter_enum he ?_
      have I3 : L2.Inv X pins σ H2 { s2 with heap := h' } := I2.kept (t' := s2.toks) hk
      refine ⟨s2.heap.objs.size + 1, [s2.heap.objs.size + 1, s2.heap.objs.size], _, _, H2, rfl, I3, turn_enumS a (s2.heap.objs.size + 1) s2.heap.objs.size k, ⟨⟨.none, by simpa using he⟩, ⟨_, hit, rfl, rfl⟩, Nat.succ_ne_self _, Nat.ne_of_lt la, fun z => by rw [z] at la; exact absurd la (Nat.not_lt.mpr (Nat.le_succ _))⟩, fun b hb => ?_, q⟩
      have := hle b (by simpa using hb)
      exact I2.fpOk this (I2.hok.fresh this)
    · obtain ⟨its, rv, p', hz⟩ := I2.tuple hq
      have la : a < s2.heap.objs.size := by obtain ⟨o, e, _⟩ := p'; exact Heap.lt_size e
      refine enum_begins_start (begins_tuple a its.toArray) p' wk.1 wk.2 fun h' he hit hsz hk => wpAny_pyIter_enum he ?_
      have I3 : L2.Inv X pins σ H2 { s2 with heap := h' } := I2.kept (t' := s2.toks) hk
      refine ⟨s2.heap.objs.size + 1, [s2.heap.objs.size + 1, s2.heap.objs.size], _, _, H2, rfl, I3, turn_enumT a (s2.heap.objs.size + 1) s2.heap.objs.size k, ⟨⟨.none, by simpa using he⟩, ⟨_, hit, rfl, rfl⟩, Nat.succ_ne_self _, Nat.ne_of_lt la, fun z => by rw [z] at la; exact absurd la (Nat.not_lt.mpr (Nat.le_succ _))⟩, fun b hb => ?_, q⟩
      have := hle b (by simpa using hb)
      exact I2.fpOk this (I2.hok.fresh this)
end
section
variable {K : PySem.W.Frag} {H1 : Hp} {L : List (Addr × Ob)} {P : List Pf}
variable {g : TG} {te : TE} {tt : TT} {wv : List Nat} {σ : L2.St} {D : Addr} {Qd : Hp → Prop}
/-- sifted: of those of zs that t takes, data -/
theorem lc_siftD {α : Type} {J : It} {G : Hp → Prop} {Y : Nat → Hp → V → Hp → Prop} (zs : List α) (dat : α → PyData) (t : α → Bool) (w : Walk J zs.length G Y) (h : Own K H1 L P) (hD : H1 D = none) (hz : zs.length ≤ 10000)
    (ha : ∀ (H : Hp) (L' : List (Addr × Ob)) (P' : List Pf), (∀ p ∈ L, p ∈ L') → Ps P P' → Own K H L' P' → G H)
    (hs : ∀ (i : Nat) (z : α) (x : V) (H H' : Hp) (P' : List Pf) (ds : List PyData) (Qn : Hp → Prop) (Qy : VK), zs[i]? = some z → Y i H x H' → Ps P P' → Own K H ((D, .L ds) :: L) P' →
      (t z = false → ∀ (H'' : Hp) (P'' : List Pf), Ps P' P'' → Own K H'' ((D, .L ds) :: L) P'' → Qn H'') →
      (t z = true → ∀ (y : V) (H'' : Hp) (P'' : List Pf), Ps P' P'' → Own K H'' ((D, .L ds) :: L) P'' → Dv1 K P'' y (dat z) → Qy y H'') → g x (wipe σ wv) H' fun σ2 H2 => wipe σ2 wv = wipe σ wv ∧ tt σ2 H2 fun b H3 => if b = true then te σ2 H3 Qy else Qn H3)
    (hd : ∀ (H' : Hp) (P' : List Pf), Ps P P' → Own K H' ((D, .L ((zs.filter t).map dat)) :: L) P' → Qd H') :
    ∃ W : Nat → Nat → Hp → Prop, (∃ m, W 0 m (upd H1 D (.lst []))) ∧ ∀ i m H, W i m H →
      (J.stop i H ∧ Qd H) ∨ (J.go i H ∧ ∃ Nx : Hp → Prop, (∀ H', Nx H' → ∃ m', m' < m ∧ W (i + 1) m' H') ∧ ∀ x H', J.yld i H x H' → g x (wipe σ wv) H' fun σ2 H2 => wipe σ2 wv = wipe σ wv ∧ tt σ2 H2 fun b H3 =>
        if b = true then te σ2 H3 fun y H4 => ∃ acc, H4 D = some (.lst acc) ∧ acc.length < sizeLine ∧ Nx (upd H4 D (.lst (acc ++ [y]))) else Nx H3) := by
  refine lc_it w (fun i H => ∃ P', Ps P P' ∧ Own K H ((D, .L (((zs.take i).filter t).map dat)) :: L) P') ⟨P, Ps.refl, ?_⟩ (fun i H _ ⟨P', s, q⟩ => ha H _ P' (fun p m => List.mem_cons_of_mem _ m) s q) (fun i x H H' hi ⟨P', s, q⟩ y => ?_) (fun H ⟨P', s, q⟩ => hd H P' s (by rw [List.take_of_length_le (Nat.le_refl _)] at q; exact q))
  · have h2 := h.new hD (o := .lst []) rfl
    exact h2.closeL (vs := []) List.mem_cons_self (by rw [List.take_zero]; exact Dv.nil) .head
  · have et : zs.take (i + 1) = zs.take i ++ [zs[i]] := by rw [List.take_add_one, List.getElem?_eq_getElem hi]; rfl
    refine hs i zs[i] x H H' P' _ _ _ (List.getElem?_eq_getElem hi) y s q (fun tn H'' P'' s' q' => ⟨P'', fun r m => s' r (s r m), ?_⟩) (fun ty y H'' P'' s' q' dv => ?_)
    · rw [et, List.filter_append, List.filter_cons, tn]; simpa using q'
    · obtain ⟨vs, ev, dvs⟩ := q'.lst List.mem_cons_self
      have len := dvs.len
      have hlen : vs.length ≤ 10000 := by
        rw [len, List.length_map]
        exact Nat.le_trans (List.length_filter_le _ _) (by rw [List.length_take]; omega)
      refine ⟨vs, ev, size_lt hlen, P'', fun r m => s' r (s r m), ?_⟩
      have e2 : ((zs.take (i + 1)).filter t).map dat = ((zs.take i).filter t).map dat ++ [dat zs[i]] := by rw [et, List.filter_append, List.filter_cons, ty]; simp
      rw [e2]
      exact own_app (i := i) q' ev dv
end
end Hx

set_option Elab.async false
set_option linter.all false
set_option maxRecDepth 100000
set_option maxHeartbeats 4000000
/-! != by an own __eq__: object.__ne__ asks it and turns its answer -/
namespace Hx
open PySem PySem.Spec PyProof.Rows L2 PySem.W
section
variable {prog : Program} {w : World} {A : Around} {E : Value → Shared → Prop} {s : Shared} {K : Frag} {x C L f : Addr} {h₀ : Heap} {m : Str → Option Value} {ox : Obj} {od : Option Obj} {name : Str} {b tb : Value}
theorem one_bind (self : Value) : bindSpecial (.builtin "object.__ne__") self = pure (.builtin "object.__ne__", [self]) :=
  (Slot.of (T := "object") (name := "__ne__") (owner := "object") (n := "__ne__") (by rw [typeLookup_type, builtinLookup_eq_fast]; kernel_rfl) (by decide +kernel) (by decide +kernel) (by decide +kernel)
    (.inl (by decide +kernel)) (by rw [isSubtype_type]; kernel_rfl)).bind self
theorem ifBound_B {M : Model} {id : String} {args : List Value} {Q : Option Value → Shared → Prop} (X : K.In s.heap) (I : InstAt s.heap x ox C od) (hs : findIn K (.ref C) name = some (some (.builtin id))) (hb : ∀ self, bindSpecial (.builtin id) self = pure (.builtin id, [self]))
    (h : wpAny M A (call (.builtin id) (.ref x :: args)) (fun v => Q (some v)) E s) : wpAny M A (callSpecialIfBound? (.ref x) name args) Q E s := by
  simp only [callSpecialIfBound?, bindSpecialIfBound?]
  refine wpAny_holding (wpAny_bind (wpAny_bind (wpAny_bind (I.type.here ((looks_findIn X hs).here ?_)))))
  refine wpAny_bind (wpAny_askSetting (wpAny_ite ?_))
  have fin : wpAny M A (call (.builtin id) ([.ref x] ++ args) >>= fun v => pure (some v)) Q E s := wpAny_bind (wpAny_mono h (fun v s' h' => wpAny_pure h') fun _ _ h' => h')
  split
  · rw [hb]; exact wpAny_bind (wpAny_pure (wpAny_pure fin))
  · rw [hb]; exact wpAny_tryCatch (wpAny_bind (wpAny_pure (wpAny_pure fin)))
theorem check_ne (X : K.In s.heap) (I : InstAt s.heap x ox C od) (ho : subIn K (.ref C) (.type "object") = some true) {Q : Unit → Shared → Prop} (hq : Q () s) :
    wpAny (model prog w) A (checkBuiltinCall "object.__ne__" ⟨[.ref x, b], []⟩) Q E s := by
  have ha := PySem.F.cmpArgs_ne (.ref x) b
  simp only [checkBuiltinCall, PySem.F.cmpKind_ne, PySem.F.cmpSplit_ne]
  refine wpAny_bind ?_
  unfold isInstance
  refine wpAny_bind (I.type.here ((looks_subIn X ho).here ?_))
  simp only [Bool.not_true, Bool.false_eq_true, if_false]
  cases hsig : Manifest.signature? "object.__ne__" with
  | none => exact wpAny_pure hq
  | some sig =>
    simp only [argsOk, hsig] at ha
    have h2 : Bind.checkArgs "object.__ne__" sig ⟨[.ref x, b], []⟩ = pure () := ha
    show wpAny _ _ (Bind.checkArgs "object.__ne__" sig ⟨[.ref x, b], []⟩) Q E _
    rw [h2]; exact wpAny_pure hq
theorem ne_K {Q : Value → Shared → Prop} (hu : A.units + 1 < cLine) (F : Fr h₀ L s.heap m) (X₀ : K.In h₀) (I : InstAt s.heap x ox C od) (hb : Looks (model prog w) s.heap (typeOf b) tb) (hn : notFirst K C tb = true)
    (hs : findIn K (.ref C) "__eq__" = some (some (.ref f))) (hf : isFn K (.ref f) = true) (hne : findIn K (.ref C) "__ne__" = some (some (.builtin "object.__ne__"))) (ho : subIn K (.ref C) (.type "object") = some true)
    (h : wpAny (model prog w) A.in1 (call (.ref f) [.ref x, b]) (fun v s' => ∃ c : Bool, v = .bool c ∧ Q (.bool (!c)) s') E s) : wpAny (model prog w) A (richCompare .NotEq (.ref x) b) Q E s := by
  have X := X₀.keeps F.keep
  have one : wpAny (model prog w) A (tryCompare (.ref x) "__ne__" b) (fun r s' => ∃ v, r = some v ∧ Q v s') E s := by
    unfold tryCompare
    refine wpAny_bind (ifBound_B X I hne one_bind ?_)
    refine wpAny_call (codeAny_call_builtin (by decide +kernel) PySem.F.cmpEntry_ne (check_ne X I ho ?_))
    unfold Builtin.«object.__ne__»
    refine wpAny_bind (wpAny_of_eq (a := ((Value.ref x : Value), [b])) (by first | rfl | (simp only [slotArgs]; rfl)) ?_)
    refine wpAny_bind (wpAny_cRoomFor hu ?_)
    refine wpAny_bind (ifBound_K X I hs hf (wpAny_mono h (fun v s' hv => ?_) fun _ _ e => e))
    obtain ⟨c, rfl, hq⟩ := hv
    exact wpAny_bind (wpAny_pure (wpAny_pure (wpAny_pure ⟨_, rfl, hq⟩)))
  unfold richCompare
  simp only [oneThing_ref]
  refine wpAny_holding (wpAny_bind (wpAny_cRoomFor (by omega) ?_))
  refine wpAny_bind (I.type.here (wpAny_bind (hb.here ?_)))
  split
  · rename_i q
    have e : subIn K tb (.ref C) = some false := by
      rcases Bool.or_eq_true_iff.mp hn with e | e
      · rw [beq_iff_eq.mp e] at q; simp at q
      · exact beq_iff_eq.mp e
    refine wpAny_bind ((looks_subIn X e).here ?_)
    simp only [Bool.false_eq_true, if_false]
    refine wpAny_bind (wpAny_mono one (fun r s' z => ?_) fun _ _ e => e)
    obtain ⟨v, rfl, hq⟩ := z
    exact wpAny_pure hq
  · refine wpAny_bind (wpAny_pure ?_)
    simp only [Bool.false_eq_true, if_false]
    refine wpAny_bind (wpAny_mono one (fun r s' z => ?_) fun _ _ e => e)
    obtain ⟨v, rfl, hq⟩ := z
    exact wpAny_pure hq
end
/-- the walker stops at the operator -/
theorem op_stop {X : Cx} {f : Value → Value → Sem Value} {r : R2} (h : OpR X f r) : OpR X f (fun x y H Q => Stop (r x y H Q)) := fun pins s σ H x y v u Q I rx ry q => h pins s σ H x y v u Q I rx ry q.h
/-- what a look-up with something else hands back, by a fact of the context -/
structure EqV (a b : V) : Prop where
  h : a = b
def tDGet2E (td ty tx : TE) : TE := fun σ H Q => td σ H fun x H1 => ∃ a, x = .ref a ∧ IsD H1 a ∧ ty σ H1 fun y H2 => tx σ H2 fun z H3 => ∃ (o : Option V) (w : V), DGet H3 a y o ∧ EqV (o.getD z) w ∧ Q w H3
theorem pe_dget2E {X : Cx} {o e f : Expr} {td ty tx : TE} {apos cpos : Pos} (hu : X.A.units + 1 < cLine) (ho : PE X o td) (he : PE X e ty) (hf : PE X f tx) (m : M2 X o "get" apos e f cpos) : PE X (.Call (.Attribute o "get" apos) [e, f] [] cpos) (tDGet2E td ty tx) := by
  refine ⟨fun pins s σ H Q I h => ?_⟩
  refine wpAny_Call_method m.base m.few m.line PySem.F.plainAttrs_dict PySem.F.slot_dict_get PySem.F.type_dict_get (thn (ho.run pins s σ H _ I h) fun u s1 ⟨x, H1, I1, rx, a, ex, d, q1⟩ => ?_)
  subst ex
  obtain rfl : u = Value.ref a := rx
  obtain ⟨t1, t2, _⟩ := isD_at I1 d
  refine ⟨t1, t2, ?_⟩
  rw [m.trees]
  refine Calls.callWith_builtin rfl (Calls.evalArgs_plain (Calls.spliced_cons (thn (he.run pins s1 σ H1 _ I1 q1) fun iv s2 ⟨y, H2, I2, ry, q2⟩ =>
    Calls.spliced_cons (thn (hf.run pins s2 σ H2 _ I2 q2) fun fv s3 ⟨z, H3, I3, rz, ov, wv, g, ⟨e⟩, q3⟩ => Calls.spliced_nil ?_))))
  subst e
  exact d_get2 hu I3 g ry rz fun w' s4 I4 rw' => ⟨_, H3, I4, rw', q3⟩
section
variable {X : Cx} {n : Nat} {C f : Addr} {fd : FuncData} {ps : List Str} {sp : Sp}
/-- the call of __eq__ within object.__ne__ -/
theorem ne_call (F : FnOk X.prog X.w X.K X.mg X.base CX0 n f fd ps sp) (hr : Room (n + 1) X.A) (hb : Binds X.K fd ps []) {pins : List (Addr × Obj)} {s : Shared} {σ : L2.St} {H : Hp} (I : L2.Inv X pins σ H s) {a b : Addr} {Q : VK}
    (hsp : sp [.ref a, .ref b] H (fun v H' => ∃ c, v = .bl c ∧ Q (.bl (!c)) H') (fun _ _ _ => False)) :
    wpAny (model X.prog X.w) X.A.in1 (call (.ref f) [.ref a, .ref b]) (fun v s' => ∃ c : Bool, v = .bool c ∧ EP X pins σ Q (.bool (!c)) s') X.xe s := by
  have hl := F.len _ _ _ _ hsp
  have r2 : Vals [V.ref a, V.ref b] [Value.ref a, Value.ref b] := .cons rfl (.cons rfl .nil)
  have hB : BindsTo s fd ⟨[.ref a, .ref b], []⟩ (ps.zip [.ref a, .ref b]) := by
    have := hb s [.ref a, .ref b] I.kIn (by simpa using hl)
    simpa using this
  refine wpAny_call (codeAny_mono (F.run X.A.in1 X.stack s H ⟨[.ref a, .ref b], []⟩ [.ref a, .ref b] [.ref a, .ref b] _ _ hr.in1 I.env0.in1 hB r2 hsp) fun r s' hq => ?_)
  match r, hq with
  | .ok (.ret w), hq =>
    obtain ⟨z, H', I', rz, c, rfl, q⟩ := I.after hq
    cases rz
    exact ⟨c, rfl, .bl (!c), H', I', rfl, q⟩
  | .error e, hq => exact False.elim hq
  | .ok .next, hq => exact False.elim hq
  | .ok .brk, hq => exact False.elim hq
  | .ok .cont, hq => exact False.elim hq
/-- x != y by the class's own ==, whatever it answers -/
theorem op_neOwn (F : FnOk X.prog X.w X.K X.mg X.base CX0 n f fd ps sp) (hr : Room (n + 1) X.A)
    (hs : PySem.W.findIn X.K (.ref C) "__eq__" = some (some (.ref f))) (hf : PySem.W.isFn X.K (.ref f) = true) (hb : Binds X.K fd ps []) (hne : findIn X.K (.ref C) "__ne__" = some (some (.builtin "object.__ne__"))) (ho : subIn X.K (.ref C) (.type "object") = some true) :
    OpR X (compareOp .NotEq) (fun x y H Q => ∃ a b dx dy fs gs, x = .ref a ∧ y = .ref b ∧ H a = some (.ins C dx fs) ∧ H b = some (.ins C dy gs) ∧ sp [.ref a, .ref b] H (fun v H' => ∃ c, v = .bl c ∧ Q (.bl (!c)) H') (fun _ _ _ => False)) := by
  intro pins s σ H x y v u Q I rx ry h
  obtain ⟨a, b, dx, dy, fs, gs, rfl, rfl, ha, hb', hsp⟩ := h
  cases rx
  cases ry
  obtain ⟨mA, J, _⟩ := ins_get I.hok ha
  obtain ⟨mB, J', _⟩ := ins_get I.hok hb'
  obtain ⟨od, J, _⟩ := J.look
  obtain ⟨od', J', _⟩ := J'.look
  obtain ⟨m, hF⟩ := I.fr
  have hu := hr.un
  exact ne_K (tb := .ref C) (by omega) hF I.ok.mod.kin J J'.type (by simp [PySem.W.notFirst]) hs hf hne ho (ne_call F hr hb I hsp)
/-- the same beside a list -/
theorem op_neOwnL (F : FnOk X.prog X.w X.K X.mg X.base CX0 n f fd ps sp) (hr : Room (n + 1) X.A)
    (hs : PySem.W.findIn X.K (.ref C) "__eq__" = some (some (.ref f))) (hf : PySem.W.isFn X.K (.ref f) = true) (hb : Binds X.K fd ps []) (hsl : PySem.W.subIn X.K (.type "list") (.ref C) = some false) (hne : findIn X.K (.ref C) "__ne__" = some (some (.builtin "object.__ne__"))) (ho : subIn X.K (.ref C) (.type "object") = some true) :
    OpR X (compareOp .NotEq) (fun x y H Q => ∃ a b dx fs xs, x = .ref a ∧ y = .ref b ∧ H a = some (.ins C dx fs) ∧ H b = some (.lst xs) ∧ sp [.ref a, .ref b] H (fun v H' => ∃ c, v = .bl c ∧ Q (.bl (!c)) H') (fun _ _ _ => False)) := by
  intro pins s σ H x y v u Q I rx ry h
  obtain ⟨a, b, dx, fs, xs, rfl, rfl, ha, hb', hsp⟩ := h
  cases rx
  cases ry
  obtain ⟨mA, J, _⟩ := ins_get I.hok ha
  obtain ⟨od, J, _⟩ := J.look
  obtain ⟨_, _, nn, _, h1⟩ := (show ObjOk X.prog X.w H s.heap b (.lst xs) from I.hok b _ hb')
  obtain ⟨m, hF⟩ := I.fr
  have hu := hr.un
  exact ne_K (tb := .type "list") (by omega) hF I.ok.mod.kin J (fun A Q E s k q => wpAny_typeOf_ref (k _ _ h1) q) (by simp [PySem.W.notFirst, hsl]) hs hf hne ho (ne_call F hr hb I hsp)
end
end Hx

set_option Elab.async false
set_option linter.all false
set_option maxRecDepth 100000
set_option maxHeartbeats 1000000
/-! del xs[a:]; xs[:] = ys; xs.remove(x) of data -/
namespace Hx
open PySem PySem.Spec PyProof.Rows L2
theorem hu65 {A : Around} {k : Nat} (hr : Room k A) : A.units + 65 < cLine := by have := hr.un; omega
section
variable {prog : Program} {w : World} {A : Around} {E : Value → Shared → Prop} {s : Shared}
theorem zip_all {f : Value × Nat → Option Value} : ∀ (l : List Value) (j : Nat), (∀ k x, j ≤ k → k < j + l.length → f (x, k) = some x) → (l.zipIdx j).filterMap f = l
  | [], _, _ => rfl
  | x :: l, j, h => by
    rw [List.zipIdx_cons, List.filterMap_cons, h j x (Nat.le_refl _) (by simp)]
    show x :: _ = x :: l
    rw [zip_all l (j + 1) fun k y h1 h2 => h k y (by omega) (by simp only [List.length_cons]; omega)]
theorem zip_none {f : Value × Nat → Option Value} : ∀ (l : List Value) (j : Nat), (∀ k x, j ≤ k → k < j + l.length → f (x, k) = none) → (l.zipIdx j).filterMap f = []
  | [], _, _ => rfl
  | x :: l, j, h => by
    rw [List.zipIdx_cons, List.filterMap_cons, h j x (Nat.le_refl _) (by simp)]
    show _ = []
    exact zip_none l (j + 1) fun k y h1 h2 => h k y (by omega) (by simp only [List.length_cons]; omega)
theorem zip_cut {f : Value × Nat → Option Value} {its : List Value} {a : Nat} (h : a ≤ its.length)
    (hf : ∀ x k, f (x, k) = if (decide ((a : Int) ≤ (k : Int)) && decide ((k : Int) < (its.length : Int)) && (((k : Int) - (a : Int)) % 1 == 0)) = true then none else some x) : its.zipIdx.filterMap f = its.take a := by
  have e := List.take_append_drop a its
  conv => lhs; rw [← e, List.zipIdx_append, List.filterMap_append]
  rw [zip_all (its.take a) 0 fun k x h1 h2 => by
    rw [hf, if_neg]
    rw [List.length_take] at h2
    simp only [Bool.and_eq_true, decide_eq_true_eq, not_and]
    omega, zip_none (its.drop a) _ fun k x h1 h2 => by
    rw [hf, if_pos]
    rw [List.length_take] at h1 h2
    rw [List.length_drop] at h2
    simp only [Bool.and_eq_true, decide_eq_true_eq, beq_iff_eq]
    omega, List.append_nil]
theorem bounds_from {a n : Nat} (h : a ≤ n) : sliceBounds (some (a : Int)) none none n = ((a : Int), (n : Int), 1) := by
  simp only [sliceBounds, Option.getD_none]
  have h1 : ¬ ((a : Int) < 0) := by omega
  simp only [h1, if_false, show (1 : Int) > 0 by decide, if_true]
  congr 1
  omega
theorem delItem_cut {l sl : Addr} {items : List Value} {n : Nat} {vl vu : Value} {a : Nat} {Q : Unit → Shared → Prop}
    (e : s.heap.get? l = some { cls := .type "list", data := .seq items.toArray n })
    (hs : s.heap.IsSliceOf sl vl vu .none) (pl : IsPart vl (some (a : Int))) (pu : IsPart vu none) (ha : a ≤ items.length)
    (hsz : items.length ≤ sizeLine) (h : ∀ f : Array Value → Array Value, f items.toArray = (items.take a).toArray → Q () { s with heap := s.heap.update l (Obj.mapSeq f) }) :
    wpAny (model prog w) A (delItem (.ref l) (.ref sl)) Q E s := by
  have hl : s.heap.IsList l items.toArray := PySem.IsL.isList e
  obtain ⟨os, hos, hcs, hds⟩ := id hs
  have hTs : s.TypeIs (.ref sl) "slice" := ⟨os, hos, hcs⟩
  have hstep : ¬ ((rawPart none == rawInt 0) = true) := Bool.false_ne_true
  refine wpAny_delItem_slot hl.typeIs (by decide) F.slot_list_delitem ?_
  refine wpAny_call_entry F.slot_list_delitem hl.typeIs F.entry_list_delitem ?_ (F.args_list_delitem_2 _ _)
  show wpAny _ _ (Builtin.List.listSubscript? (.ref sl) >>= _) _ _ s
  refine wpAny_bind ?_
  unfold Builtin.List.listSubscript?
  refine wpAny_bind (wpAny_specialOf hTs slice_no_index ?_)
  simp only [Option.isNone_none, if_true]
  refine wpAny_pure ?_
  show wpAny _ _ (typeOf (.ref sl) >>= _) _ _ s
  refine wpAny_bind (wpAny_typeOf hTs ?_)
  first
    | rw [if_neg (by decide)]
    | refine PySem.W.KFB.if_not (by decide) ?_
  rw [listSliceParts_eq]
  refine wpAny_bind (wpAny_bind (wpAny_field hos hds (x := .none) rfl (wpAny_bind (wpAny_listPart .none ?_))))
  rw [if_neg hstep]
  refine wpAny_bind (wpAny_field hos hds (x := vl) rfl (wpAny_bind (wpAny_listPart pl ?_)))
  refine wpAny_bind (wpAny_field hos hds (x := vu) rfl (wpAny_bind (wpAny_listPart pu (wpAny_pure ?_))))
  refine wpAny_bind (wpAny_bind (wpAny_seqItems e rfl (wpAny_pure ?_)))
  refine wpAny_bind (wpAny_of_eq ((sliceIndices_raw (some (a : Int)) none none items.toArray.size (by simp)).trans (congrArg (pure : Int × Int × Int → Sem (Int × Int × Int)) (bounds_from (by simpa using ha)))) ?_)
  refine wpAny_bind (wpAny_rule ?_)
  have key : ∀ (α : Type) (f : Array Value → Array Value) (m : Sem α) (R : α → Shared → Prop), f items.toArray = (items.take a).toArray → wpAny (model prog w) A.in1 m R E { s with heap := s.heap.update l (Obj.mapSeq f) } → wpAny (model prog w) A.in1 (Builtin.List.listUpdate (.ref l) f >>= fun _ => m) R E s := by
    intro α f m R hf hm
    have hz' : (f items.toArray).size ≤ sizeLine + 1 := by
      rw [hf, List.size_toArray, List.length_take]
      omega
    exact wpAny_bind (wpAny_updateSeq (hz := by rw [List.size_toArray]; exact hsz) (_hz' := hz') e rfl hm)
  have hfe := fun (f : Value × Nat → Option Value) (hf : ∀ x k, f (x, k) = if (decide ((a : Int) ≤ (k : Int)) && decide ((k : Int) < (items.length : Int)) && (((k : Int) - (a : Int)) % 1 == 0)) = true then none else some x) => (congrArg List.toArray (zip_cut ha hf) : (items.zipIdx.filterMap f).toArray = _)
  refine key _ _ _ _ (hfe _ fun x k => rfl) ?_
  refine wpAny_bind (wpAny_letGo ?_)
  exact wpAny_pure ⟨.none, rfl, h _ (hfe _ fun x k => rfl)⟩
end
section
variable {X : Cx}
/-- del xs[a:] -/
def tDelF (to : TE) (tl : TO) : TS := fun D σ H => to σ H fun x H1 => tl σ H1 fun o H2 => ∃ (l : Addr) (xs : List V) (a : Nat), x = .ref l ∧ o = some (a : Int) ∧ H2 l = some (.lst xs) ∧ a ≤ xs.length ∧ D.nx σ (upd H2 l (.lst (xs.take a)))
theorem ps_delF {o lo : Expr} {to : TE} {tl : TO} {tpos p2 pos : Pos} (ho : PE X o to) (hl : PO X (some lo) tl) : PS X (.Delete [.Subscript o (.Slice (some lo) none none p2) tpos] pos) (tDelF to tl) := by
  refine ⟨fun pins s σ H D I h => ?_⟩
  refine wpAny_Delete (wpAny_deleteEach_cons (wpAny_delete_Subscript (thn (ho.run pins s σ H _ I h) fun u s1 ⟨x, H1, I1, rx, q1⟩ => ?_)))
  refine wpAny_Slice (thn (hl.run pins s1 σ H1 _ I1 q1) fun vl s2 ⟨l, H2, I2, pl, q2⟩ => ?_)
  rw [evalPart_none]
  refine wpAny_pure ?_
  refine wpAny_pure ?_
  obtain ⟨b, xs, a, rfl, rfl, hH, ha, q2⟩ := q2
  cases (show u = Value.ref b from rx)
  have I4 : Inv X pins σ H2 { s2 with heap := s2.heap.push { cls := .type "slice", data := .fields #[vl, .none, .none] } } := I2.kept (t' := s2.toks) fun b ob q => Heap.get?_push_of_some _ q
  obtain ⟨z, its, n, r, hl, e⟩ := I4.lstM hH
  refine delItem_cut (a := a) e (Heap.IsSliceOf.new ..) pl .none (by omega) (by omega) fun f hf => ?_
  refine wpAny_deleteEach_nil ⟨σ, _, I4.lset (its' := its.take a) (t' := s2.toks) hH e hf (r.take _) ?_, q2⟩
  rw [List.length_take]
  omega
end
end Hx
namespace PySem
open MeetsSeq SeqAt
theorem hx_removeAt (l : Addr) (items : Array Value) (n : Nat) (x : Value) (e : Value → Bool) (j : Nat) (hj : j < items.size) (hit : e items[j] = true) (hs1 : items.size ≤ sizeLine) (k : Nat) :
    ∀ i : Nat, j - i = k → i ≤ j → (∀ m (hm : m < items.size), i ≤ m → m < j → e items[m] = false) → Meets (Builtin.«list.remove.loop» ⟨[.ref l, x, rawInt i], []⟩)
      (fun A R s => s.heap.get? l = some { cls := .type "list", dict := none, data := .seq items n, slots := #[] } ∧ (∀ y, y ∈ items → EqAt A.in1 s y x (e y)) ∧ R (.ok (.ret .none)) { s with heap := s.heap.update l (Obj.mapSeq fun xs => xs.eraseIdxIfInBounds j) }) := by
  induction k with
  | zero =>
    intro i hk hij hno prog w A R s h
    obtain ⟨hp, g, d, tk, os⟩ := s; obtain ⟨hl, he, h⟩ := h
    have hij' : i = j := by omega
    subst hij'
    wp_walk using wpAny_loadPart' hl
    have hi : items[((i : Nat) : Int).toNat]? = some items[i] := by simp [hj]
    rw [hi]
    refine wpAny_bind (he _ (Array.getElem_mem hj) prog w _ _ ?_)
    rw [hit]
    have hz' : (items.eraseIdxIfInBounds i).size ≤ sizeLine + 1 := Nat.le_trans (size_erased items _) (Nat.le_succ_of_le hs1)
    wp_walk using (wpAny_updateSeq hl rfl (hz := hs1) (_hz' := hz')), wpAny_loadPart' hl
    simpa using h
  | succ k ih =>
    intro i hk hij hno prog w A R s h
    obtain ⟨hp, g, d, tk, os⟩ := s; obtain ⟨hl, he, h⟩ := h
    have hlt : i < items.size := by omega
    wp_walk using wpAny_loadPart' hl
    have hi : items[((i : Nat) : Int).toNat]? = some items[i] := by simp [hlt]
    have hc : ((i : Int) + 1) = ((i + 1 : Nat) : Int) := by push_cast; rfl
    rw [hi]
    refine wpAny_bind (he _ (Array.getElem_mem hlt) prog w _ _ ?_)
    rw [hno i hlt (Nat.le_refl _) (by omega)]
    wp_walk
    rw [hc]
    exact ⟨plainId_quiet plain_remove_loop _, codeAny_builtin entry_remove_loop (by
      rw [Around.under_plainId plain_remove_loop _]
      exact ih (i + 1) (by omega) (by omega) (fun m hm h1 h2 => hno m hm (by omega) h2) prog w A R _ ⟨hl, he, h⟩)⟩
theorem hx_remove (l : Addr) (items : Array Value) (n : Nat) (x : Value) (e : Value → Bool) (j : Nat) (hj : j < items.size)
    (hit : e items[j] = true) (hno : ∀ m (hm : m < items.size), m < j → e items[m] = false) (hs1 : items.size ≤ sizeLine) :
    Meets (Builtin.«list.remove» ⟨[.ref l, x], []⟩)
      (fun A R s => s.heap.get? l = some { cls := .type "list", dict := none, data := .seq items n, slots := #[] } ∧ (∀ y, y ∈ items → EqAt A.in1 s y x (e y)) ∧ R (.ok (.ret .none)) { s with heap := s.heap.update l (Obj.mapSeq fun xs => xs.eraseIdxIfInBounds j) }) := by
  intro prog w A R s h
  obtain ⟨hp, g, d, tk, os⟩ := s; obtain ⟨hl, he, h⟩ := h
  wp_walk using wpAny_loadPart' hl
  exact ⟨plainId_quiet plain_remove_loop _, codeAny_builtin entry_remove_loop (by
    rw [Around.under_plainId plain_remove_loop _]
    exact hx_removeAt l items n x e j hj hit hs1 _ 0 rfl (Nat.zero_le _) (fun m hm _ h2 => hno m hm h2) prog w A R _ ⟨hl, he, h⟩)⟩
end PySem
namespace Hx
open PySem PySem.Spec PyProof.Rows L2
section
variable {X : Cx}
/-- l.remove(x): the first of the same data -/
def rRemD (K : PySem.W.Frag) : V → List V → Hp → VK → Prop := fun x xs H Q => ∃ (a : Addr) (vs : List V) (y : V) (d : PyData) (ds : List PyData) (j : Nat) (z : PyData), x = V.ref a ∧ xs = [y] ∧ H a = some (.lst vs) ∧ DpAll K H vs ds ∧ Dp K H y d ∧
  SeqAt.shaped (.list ds) = true ∧ SeqAt.shaped d = true ∧ ds[j]? = some z ∧ PyData.eqv z d = true ∧ (∀ (m : Nat) (z' : PyData), m < j → ds[m]? = some z' → PyData.eqv z' d = false) ∧ Q .non (upd H a (.lst (vs.eraseIdx j)))
theorem mt_remD (hu : X.A.units + 65 < cLine) : MtM X "list.remove" (rRemD X.K) := by
  intro pins s σ H x xs v us Q I rx rxs h
  obtain ⟨a, vs, y, d, ds, j, z, rfl, rfl, hH, hl, hy, sl, sd, hz, hzj, hno, q⟩ := h
  cases rx
  obtain ⟨uy, rfl, ry⟩ := rxs.one
  obtain ⟨bs, r1⟩ := Dp.reads I d y uy hy ry
  have hxs : PyData.canLayAll0 ds = true := SeqAt.canLay_of_shaped sl
  have hroom : X.A.units + 1 + min (PyData.depthAll ds) d.depth < cLine := room_in_shaped sd hu
  obtain ⟨hsz, its, n, rv, hlen, ho⟩ := I.lstM hH
  obtain ⟨as, h4⟩ := Dp.readsAll I ds _ its hl rv
  have hn : its.length = ds.length := SeqAt.ReadsAll.length ds its as h4
  have hmap : its.map (SeqAt.readOf s.heap) = ds := SeqAt.readsAll_map ds its as hxs h4
  obtain ⟨hjd, _⟩ := List.getElem?_eq_some_iff.mp hz
  have hjl : j < its.length := by omega
  have hj : j < its.toArray.size := by simpa using hjl
  have at_ : ∀ (m : Nat) (hm : m < its.toArray.size) (z' : PyData), ds[m]? = some z' → SeqAt.readOf s.heap its.toArray[m] = z' := by
    intro m hm z' hz'
    have hml : m < its.length := by simpa using hm
    rw [← hmap, List.getElem?_map, List.getElem?_eq_getElem hml] at hz'
    have e1 : SeqAt.readOf s.heap its[m] = z' := Option.some.inj (show some (SeqAt.readOf s.heap its[m]) = some z' from hz')
    simpa using e1
  refine call_meets PySem.F.slot_list_remove ⟨_, ho, rfl⟩ PySem.F.entry_list_remove (PySem.F.args_list_remove_2 _ _)
    (hx_remove a its.toArray n uy (fun u => PyData.eqv (SeqAt.readOf s.heap u) d) j hj ?_ ?_ (by rw [List.size_toArray]; omega)) ⟨ho, SeqAt.items_eqAt (vs := its.toArray) (show ReadsAll s.heap its.toArray.toList ds as from h4) r1 hxs (SeqAt.canLay_of_shaped sd) hroom, ?_⟩
  · show PyData.eqv (SeqAt.readOf s.heap its.toArray[j]) d = true
    rw [at_ j hj z hz]
    exact hzj
  · intro m hm hmj
    have hmd : m < ds.length := by omega
    have hz' : ds[m]? = some ds[m] := List.getElem?_eq_getElem hmd
    show PyData.eqv (SeqAt.readOf s.heap its.toArray[m]) d = false
    rw [at_ m hm _ hz']
    exact hno m _ hmj hz'
  · refine ⟨.non, _, I.lset (its' := its.eraseIdx j) hH ho ?_ (rv.eraseIdx j) ?_, rfl, q⟩
    · show its.toArray.eraseIdxIfInBounds j = (its.eraseIdx j).toArray
      rw [List.eraseIdxIfInBounds_toArray]
    · have := len_erase vs j
      omega
end
section
variable {prog : Program} {w : World} {A : Around} {E : Value → Shared → Prop} {s : Shared}
theorem bounds_all (n : Nat) : sliceBounds none none none n = ((0 : Int), (n : Int), 1) := by
  simp only [sliceBounds, Option.getD_none, show (1 : Int) > 0 by decide, if_true]
theorem setItem_all {l b sl : Addr} {its its2 : List Value} {n n2 : Nat} {vl vu : Value} {Q : Unit → Shared → Prop}
    (e : s.heap.get? l = some { cls := .type "list", data := .seq its.toArray n }) (e2 : s.heap.get? b = some { cls := .type "list", data := .seq its2.toArray n2 }) (hne : l ≠ b)
    (hs : s.heap.IsSliceOf sl vl vu .none) (pl : IsPart vl none) (pu : IsPart vu none) (hz1 : its.length ≤ sizeLine) (hsz : its.length + its2.length ≤ sizeLine)
    (h : ∀ f : Array Value → Array Value, f its.toArray = its2.toArray → Q () { s with heap := s.heap.update l (Obj.mapSeq f) }) :
    wpAny (model prog w) A (setItem (.ref l) (.ref sl) (.ref b)) Q E s := by
  have hl : s.heap.IsList l its.toArray := PySem.IsL.isList e
  have hb : s.heap.IsList b its2.toArray := PySem.IsL.isList e2
  obtain ⟨os, hos, hcs, hds⟩ := id hs
  have hTs : s.TypeIs (.ref sl) "slice" := ⟨os, hos, hcs⟩
  have hstep : ¬ ((rawPart none == rawInt 0) = true) := Bool.false_ne_true
  have hsame : Builtin.List.listSameRef (.ref l) (.ref b) = false := beq_eq_false_iff_ne.mpr hne
  unfold setItem
  refine wpAny_holding ?_
  refine wpAny_bind (wpAny_sequenceKey hl.typeIs (by decide) ?_)
  refine wpAny_bind (wpAny_callSpecial?_slot (name := Str.ofString "__setitem__") hl.typeIs F.slot_list_setitem
    (wpAny_call_entry F.slot_list_setitem hl.typeIs F.entry_list_setitem ?_ (F.args_list_setitem_3 _ _ _)))
  refine wpAny_bind (m := Builtin.List.listSubscript? (.ref sl)) ?_
  unfold Builtin.List.listSubscript?
  refine wpAny_bind (wpAny_specialOf hTs slice_no_index ?_)
  simp only [Option.isNone_none, if_true]
  refine wpAny_pure ?_
  refine wpAny_bind (m := typeOf (.ref sl)) (wpAny_typeOf hTs ?_)
  first
    | rw [if_neg (by decide)]
    | refine PySem.W.KFB.if_not (by decide) ?_
  rw [listSliceParts_eq]
  refine wpAny_bind (wpAny_bind (wpAny_field hos hds (x := .none) rfl (wpAny_bind (wpAny_listPart .none ?_))))
  rw [if_neg hstep]
  refine wpAny_bind (wpAny_field hos hds (x := vl) rfl (wpAny_bind (wpAny_listPart pl ?_)))
  refine wpAny_bind (wpAny_field hos hds (x := vu) rfl (wpAny_bind (wpAny_listPart pu (wpAny_pure ?_))))
  first
    | simp only [hsame, Bool.false_eq_true, if_false]
    | refine PySem.W.KFB.if_not hsame ?_
  refine wpAny_bind (m := Builtin.List.listAllItems (.ref b) "must assign iterable to extended slice") ?_
  unfold Builtin.List.listAllItems
  refine wpAny_bind (wpAny_typeOf hb.typeIs ?_)
  first
    | refine PySem.W.KFB.if_so (by decide) ?_
    | rw [if_pos (by decide)]
  refine wpAny_bind (wpAny_seqItems e2 rfl (wpAny_pure ?_))
  refine wpAny_bind (wpAny_bind (wpAny_seqItems e rfl (wpAny_pure ?_)))
  refine wpAny_bind (wpAny_of_eq ((sliceIndices_raw none none none its.toArray.size (by simp)).trans (congrArg (pure : Int × Int × Int → Sem (Int × Int × Int)) (bounds_all _))) ?_)
  refine PySem.W.KFB.if_so rfl ?_
  refine wpAny_bind (wpAny_rule ?_)
  refine PySem.W.KFB.if_not (notLongL (by rw [List.size_toArray, List.size_toArray]; exact hsz)) ?_
  have key : ∀ (α : Type) (f : Array Value → Array Value) (m : Sem α) (R : α → Shared → Prop), f its.toArray = its2.toArray → wpAny (model prog w) A.in1 m R E { s with heap := s.heap.update l (Obj.mapSeq f) } → wpAny (model prog w) A.in1 (Builtin.List.listUpdate (.ref l) f >>= fun _ => m) R E s := by
    intro α f m R hf hm
    have hz' : (f its.toArray).size ≤ sizeLine + 1 := by
      rw [hf, List.size_toArray]
      omega
    exact wpAny_bind (wpAny_updateSeq (hz := by rw [List.size_toArray]; exact hz1) (_hz' := hz') e rfl hm)
  have hfe : (fun xs : Array Value => xs.extract 0 (0 : Int).toNat ++ its2.toArray ++ xs.extract (max (0 : Int) (its.toArray.size : Int)).toNat xs.size) its.toArray = its2.toArray := by
    have h1 : (max (0 : Int) (its.toArray.size : Int)).toNat = its.toArray.size := by omega
    show its.toArray.extract 0 (0 : Int).toNat ++ its2.toArray ++ its.toArray.extract (max (0 : Int) (its.toArray.size : Int)).toNat its.toArray.size = _
    rw [h1]
    apply Array.toList_inj.mp
    simp
  refine key _ _ _ _ hfe ?_
  refine wpAny_bind (wpAny_letGo ?_)
  exact wpAny_pure ⟨.none, rfl, wpAny_pure (h _ hfe)⟩
end
section
variable {X : Cx}
/-- xs[:] = of another list -/
def gSlAll (to : TE) : TG := fun v σ H Q => to σ H fun x H1 => ∃ (l b : Addr) (xs ys : List V), x = .ref l ∧ v = .ref b ∧ H1 l = some (.lst xs) ∧ H1 b = some (.lst ys) ∧ l ≠ b ∧ xs.length + ys.length ≤ sizeLine ∧ Q σ (upd H1 l (.lst ys))
theorem pg_slAll {o : Expr} {to : TE} {p2 pos : Pos} (ho : PE X o to) : PG X (.Subscript o (.Slice none none none p2) pos) (gSlAll to) := by
  refine ⟨fun pins s σ H v u Q I r h => ?_⟩
  rw [arm_assign_Subscript]
  refine wpAny_bind (wpAny_holding (thn (ho.run pins s σ H _ I h) fun ov s1 ⟨x, H1, I1, r1, q1⟩ => ?_))
  refine wpAny_bind (wpAny_holding ?_)
  refine wpAny_Slice ?_
  rw [evalPart_none]
  refine wpAny_pure ?_
  refine wpAny_pure ?_
  refine wpAny_pure ?_
  obtain ⟨l, b, xs, ys, rfl, rfl, hH, hB, hne, hz, q1⟩ := q1
  cases (show ov = Value.ref l from r1)
  cases (show u = Value.ref b from r)
  have I4 : Inv X pins σ H1 { s1 with heap := s1.heap.push { cls := .type "slice", data := .fields #[.none, .none, .none] } } := I1.kept (t' := s1.toks) fun b ob q => Heap.get?_push_of_some _ q
  obtain ⟨z, its, n, rv, hl, e⟩ := I4.lstM hH
  obtain ⟨z2, its2, n2, rv2, hl2, e2⟩ := I4.lstM hB
  refine wpAny_bind (wpAny_standAt (wpAny_bind (wpAny_holding (setItem_all e e2 hne (Heap.IsSliceOf.new ..) .none .none (by omega) (by omega) fun f hf => ?_))))
  refine wpAny_release ⟨σ, _, I4.lset (its' := its2) (t' := s1.toks) hH e hf rv2 ?_, q1⟩
  exact z2
end
end Hx

set_option Elab.async false
set_option linter.all false
set_option maxRecDepth 100000
set_option maxHeartbeats 1000000
/-! == of two dicts of data, with any answer -/
namespace Hx
open PySem PySem.Spec PyProof.Rows L2
def hitD (lds : List (Key × PyData)) (p : Key × PyData) : Bool := match valD lds p.1 with
  | some d => PyData.eqv p.2 d
  | none => false
def eqvDD (kds lds : List (Key × PyData)) : Bool := kds.length == lds.length && kds.all (hitD lds)
section
variable {X : Cx} {pins : List (Addr × Obj)} {σ : L2.St} {H : Hp} {s : Shared}
theorem hitsDD (I : L2.Inv X pins σ H s) {A : Around} (hu : A.units + 64 < cLine) {ls : List (Key × V)} {vb : List (Key × Value)} (rb : KV ls vb) {lds : List (Key × PyData)} (hk : ls.map Prod.fst = lds.map Prod.fst)
    (hd : DpAll X.K H (ls.map Prod.snd) (lds.map Prod.snd)) (hs : ∀ p ∈ lds, SeqAt.shaped p.2 = true) : ∀ {kds : List (Key × PyData)} {ks : List (Key × V)} {va : List (Key × Value)}, KV ks va → ks.map Prod.fst = kds.map Prod.fst → DpAll X.K H (ks.map Prod.snd) (kds.map Prod.snd) → (∀ p ∈ kds, SeqAt.shaped p.2 = true) →
    PySem.W.KeqHitsP X.prog X.w A s vb va (kds.all (hitD lds)) := by
  intro kds
  induction kds with
  | nil =>
    intro ks va ra e _ _
    cases ks with
    | cons p r => simp at e
    | nil => cases ra; exact .nil
  | cons q kds ih =>
    intro ks va ra e hdp hsh
    cases ks with
    | nil => simp at e
    | cons p ks =>
      obtain ⟨e1, e2⟩ := keys_cons e
      cases hdp with
      | cons d1 d2 =>
        cases ra with
        | @cons _ q' _ qs h t =>
          obtain ⟨h1, h2⟩ := h
          obtain ⟨key, v⟩ := q'
          have h1' : p.1 = key := h1
          have ek : key = q.1 := h1' ▸ e1
          have r := ih t e2 d2 (fun p hp => hsh p (List.mem_cons_of_mem _ hp))
          rw [List.all_cons]
          have rr : RelO (valV ls q.1) (valueAt vb q.1) := rb.val q.1
          subst ek
          unfold hitD
          cases ev : valD lds q.1 with
          | none =>
            rw [valV_ofN hk ev] at rr
            rw [Bool.false_and]
            exact .miss (RelO.none_of rr)
          | some d' =>
            obtain ⟨v', ev'⟩ := valV_of hk ev
            rw [ev'] at rr
            obtain ⟨y, hy, ry⟩ := rr.some_of
            have dp' := valV_dp hk hd ev' ev
            obtain ⟨as, r1⟩ := Dp.reads I q.2 p.2 v d1 h2
            obtain ⟨bs, r2⟩ := Dp.reads I d' v' y dp' ry
            have s1 := hsh q List.mem_cons_self
            have s2 : SeqAt.shaped d' = true := by
              unfold valD at ev
              obtain ⟨z, hz, ez⟩ := Option.map_eq_some_iff.mp ev
              rw [← ez]
              exact hs z (List.mem_of_find?_eq_some hz)
            refine .hit hy (SeqAt.EqAt.eqP (SeqAt.eqAt_reads q.2 d' A s v y as bs r1 r2 (SeqAt.canLay_of_shaped s1) (SeqAt.canLay_of_shaped s2) ?_)) r
            have : q.2.depth ≤ 64 := by
              have := s1
              unfold SeqAt.shaped at this
              rw [Bool.and_eq_true] at this
              exact of_decide_eq_true this.2
            omega
def rDD (K : PySem.W.Frag) : R2 := fun x y H Q => ∃ (a b : Addr) (ks ls : List (Key × V)) (kds lds : List (Key × PyData)), x = .ref a ∧ y = .ref b ∧ H a = some (.dK ks) ∧ H b = some (.dK ls) ∧ ks.map Prod.fst = kds.map Prod.fst ∧ ls.map Prod.fst = lds.map Prod.fst ∧
  DpAll K H (ks.map Prod.snd) (kds.map Prod.snd) ∧ DpAll K H (ls.map Prod.snd) (lds.map Prod.snd) ∧ (∀ p ∈ kds, SeqAt.shaped p.2 = true) ∧ (∀ p ∈ lds, SeqAt.shaped p.2 = true) ∧ Q (.bl (eqvDD kds lds)) H
theorem op_eqDD (hu : X.A.units + 65 < cLine) : OpR X (compareOp .Eq) (rDD X.K) := by
  intro pins s σ H x y v u Q I rx ry h
  obtain ⟨a, b, ks, ls, kds, lds, rfl, rfl, ea, eb, hk, hl, dk, dl, sk, sl, q⟩ := h
  obtain rfl : v = Value.ref a := rx
  obtain rfl : u = Value.ref b := ry
  obtain ⟨_, ya, va, ra, da⟩ := (show ObjOk X.prog X.w H s.heap a (.dK ks) from I.hok a _ ea)
  obtain ⟨_, yb, vb, rb, db⟩ := (show ObjOk X.prog X.w H s.heap b (.dK ls) from I.hok b _ eb)
  refine PySem.W.rcP_dicts (knd := mixKind X.prog X.w) (r := kds.all (hitD lds)) ya yb da db (by omega) (fun _ => hitsDD I (A := X.A.in1) (by show X.A.units + 1 + 64 < cLine; omega) rb hl dl sl ra hk dk sk) _ _ ?_
  refine ⟨.bl _, H, I, rfl, ?_⟩
  have e1 : va.length = kds.length := by rw [← ra.length, ← List.length_map (f := Prod.fst), hk, List.length_map]
  have e2 : vb.length = lds.length := by rw [← rb.length, ← List.length_map (f := Prod.fst), hl, List.length_map]
  rw [e1, e2]
  exact q
end
end Hx

set_option Elab.async false
set_option linter.all false
set_option maxRecDepth 100000
set_option maxHeartbeats 4000000
/-! raise X() without arguments; repr of an int or None; the sum of a tuple; calls by keywords within a try; a loop over zip with one name as its target -/
namespace Hx
open PySem PySem.Spec PyProof.Rows L2 SkE
section
variable {X : Cx} {pos : Pos}
/-- X(), X an own exception class without own __init__ -/
theorem pmk_own0 {C : Addr} {bmB : List Value} {B newId initId : String} {x : Str} {p : Pos} (F : ExcBaseFacts B newId initId bmB) (q : PySem.W.excIn X.K C bmB newId = true) (gC : X.mg x = some (.ref C))
    (kC : PySem.W.keepIn X.K (.ref C) = true) (r : Raises X (.ref C)) (hg : Gl X x) (hdb : (x == ("__debug__" : Str)) = false := by decide) :
    PMk X (.Call (.Name x p) [] [] pos) (fun _ H Q => Q (.ref C) none H) := by
  intro pins s σ H Q I h
  refine wpAny_Call_Name_kw (ld_glob I hg gC ?_ hdb)
  refine PySem.W.callWith_K0 I.kIn kC ?_
  show wpAny _ _ (call (.ref C) []) _ _ _
  obtain ⟨bm, N, nm, qn, bs, hdct, sn, sub, ab, col, dd, k0, k1, k2, k3, k5, mN, hC, hN, hni, T⟩ := exc_obj I.kIn q
  refine wpAny_call_exc_subT F T hC hN hni (fun h' e hm => ?_) (Nat.zero_le _)
  exact mk_of I hm r h (I.hok.gone hm.new)
/-- repr of an int, of None -/
def rRepIO : List V → Hp → VK → Prop := fun xs H Q => (∃ i : Int, xs = [.int i] ∧ i.natAbs.log2 < 1920 ∧ Q (.str (toString i)) H) ∨ (xs = [.non] ∧ Q (.str "None") H)
theorem call_repr_io : CallR X (.builtin "repr") rRepIO := by
  intro pins s σ H xs us Q I r h
  rcases h with h | ⟨rfl, q⟩
  · exact call_repr_int pins s σ H xs us Q I r h
  · cases r with
    | cons ru rn =>
      cases rn
      cases ru
      exact PySem.P.repr_of_none ⟨.str _, H, I.tok _, ⟨_, rfl⟩, q⟩
/-- {k: v, ..} with keys that are known -/
def tDispK (ks : List Key) (trs : List (TE × TE)) : TE := fun σ H Q => ∀ p, H p = none → tPairs trs σ (upd H p (.dK [])) fun ps H2 => H2 p = some (.dK []) ∧ ps.map Prod.fst = ks.map kV ∧ Q (.ref p) (upd H2 p (.dK (mergeK [] (ks.zip (ps.map Prod.snd)))))
theorem zip_keys : ∀ {ks : List Key} {ps : List (V × V)}, ps.map Prod.fst = ks.map kV → ps = (ks.zip (ps.map Prod.snd)).map fun kv => (kV kv.1, kv.2)
  | [], [], _ => rfl
  | [], _ :: _, h => by simp at h
  | _ :: _, [], h => by simp at h
  | k :: ks, p :: ps, h => by
    simp only [List.map_cons, List.cons.injEq] at h
    simp only [List.map_cons, List.zip_cons_cons, List.cons.injEq]
    exact ⟨by rw [← h.1], zip_keys h.2⟩
theorem pe_dispK {ks : List Key} {keys : List (Option Expr)} {values : List Expr} {trs : List (TE × TE)} (h : PPs X pos keys values trs) (hall : keys.all (·.isSome) = true) (hl : keys.length = values.length) (h0 : keys ≠ [])
    (h15 : keys.length ≤ 15) (hk : ks.length ≤ 15) : PE X (.Dict keys values pos) (tDispK ks trs) := by
  refine ⟨fun pins s σ H Q I q => ?_⟩
  have hn := I.hok.fresh (Nat.le_refl s.heap.objs.size)
  have I1 := I.laid (a := s.heap.objs.size) (o := .dK []) (h' := s.heap.push { cls := .type "dict", data := .dict #[] }) (t' := s.toks) (fun _ _ q => Heap.get?_push_of_some _ q) (Nat.le_refl _) (dk_empty s.heap I.big)
  refine wpAny_Dict_walk (knd := mixKind X.prog X.w) hall hl h0 h15 (thn (h.run pins _ σ _ _ I1 (q _ hn)) fun ws s2 ⟨ps, H2, I2, rel, e, ek, q2⟩ => ?_)
  have ep := zip_keys ek
  have lk : (ks.zip (ps.map Prod.snd)).length ≤ 15 := by rw [List.length_zip]; omega
  generalize ks.zip (ps.map Prod.snd) = kvs at ep lk q2
  subst ep
  obtain ⟨rs, c, rk⟩ := carries_of (P := X.prog) (w := X.w) rel
  obtain ⟨z, hd, vs0, r0, dd⟩ := dk_of I2.hok e
  cases r0
  refine ⟨rs, c, dd, fun h' dd' hs => ⟨.ref s.heap.objs.size, _, ?_, rfl, q2⟩⟩
  have hz : (mergeK [] kvs).length ≤ sizeLine := by
    have h1 := length_mergeK kvs []
    rw [List.length_nil] at h1
    rw [sizeLine_eq]; omega
  have he : ∃ q, h'.get? s.heap.objs.size = some q := let ⟨q, _, _, hq, _⟩ := dd'; ⟨q, hq⟩
  exact d_write I2 (by rw [e]; exact True.intro) hs he (dk_new hz hd (rk.merge .nil) dd')
theorem DGet.ks {H : Hp} {a : Addr} {kvs : List (Key × V)} {x : Str} {r : Option V} (e : H a = some (.dK kvs)) (h : valV kvs (Sum.inr x) = r) : DGet H a (.str x) r := h ▸ DGet.k (k := Sum.inr x) e
/-- in a display; in a tuple of the module's -/
theorem op_inT : OpR X (compareOp .In) (fun x y H Q => ∃ p xs, y = .ref p ∧ H p = some (.tup xs) ∧ flatV x = true ∧ xs.all flatV = true ∧ Q (.bl (inV x xs)) H) :=
  fun pins s σ H x y v u Q I rx ry ⟨p, xs, e, h, q⟩ => op_in_seq pins s σ H x y v u Q I rx ry ⟨p, xs, e, .inr (SqT.of h), q⟩
theorem op_inL : OpR X (compareOp .In) (fun x y H Q => ∃ p xs, y = .ref p ∧ H p = some (.lst xs) ∧ flatV x = true ∧ xs.all flatV = true ∧ Q (.bl (inV x xs)) H) :=
  fun pins s σ H x y v u Q I rx ry ⟨p, xs, e, h, q⟩ => op_in_seq pins s σ H x y v u Q I rx ry ⟨p, xs, e, .inl (SqL.of h), q⟩
theorem op_notInK {D : Addr} {xs : List V} (h : ∀ H : Hp, SqT X.K H D xs) (hf : xs.all flatV = true) : OpR X (compareOp .NotIn) (fun x y H Q => y = .ref D ∧ flatV x = true ∧ Q (.bl (!inV x xs)) H) :=
  fun pins s σ H x y v u Q I rx ry ⟨e, h1, q⟩ => op_notIn_seq pins s σ H x y v u Q I rx ry ⟨D, xs, e, .inr (h H), h1, hf, q⟩
theorem op_inK {D : Addr} {xs : List V} (h : ∀ H : Hp, SqT X.K H D xs) (hf : xs.all flatV = true) : OpR X (compareOp .In) (fun x y H Q => y = .ref D ∧ flatV x = true ∧ Q (.bl (inV x xs)) H) :=
  fun pins s σ H x y v u Q I rx ry ⟨e, h1, q⟩ => op_in_seq pins s σ H x y v u Q I rx ry ⟨D, xs, e, .inr (h H), h1, hf, q⟩
/-- the same, said of the value -/
def RepOk (v : V) : Prop := v = .non ∨ ∃ i : Int, v = .int i ∧ i.natAbs.log2 < 1920
def repT : V → Str
  | .int i => toString i
  | _ => "None"
theorem call_repr_v : CallR X (.builtin "repr") (fun xs H Q => ∃ v : V, xs = [v] ∧ RepOk v ∧ Q (.str (repT v)) H) := by
  intro pins s σ H xs us Q I r h
  obtain ⟨v, rfl, hv, q⟩ := h
  rcases hv with rfl | ⟨i, rfl, hi⟩
  · exact call_repr_io pins s σ H _ us Q I r (.inr ⟨rfl, q⟩)
  · exact call_repr_io pins s σ H _ us Q I r (.inl ⟨i, rfl, hi, q⟩)
/-- the sum of a tuple of ints -/
def rSumT (K : PySem.W.Frag) : List V → Hp → VK → Prop := fun vs H Q => ∃ (a : Addr) (ns : List Int), vs = [V.ref a] ∧ SqT K H a (ns.map V.int) ∧ Q (.int ns.sum) H
theorem cr_sumT (hc : X.calm = true) : CallR X (.builtin "sum") (rSumT X.K) := by
  intro pins s σ H vs us Q I r h
  obtain ⟨a, ns, rfl, hs, q⟩ := h
  obtain ⟨its, rv, ht, _⟩ := I.tuple hs
  rw [Vals.ref1 r]
  have hi := rv.ints
  obtain ⟨xs, hx⟩ := hi.allInts.items
  have ht' : s.heap.IsTuple a its.toArray := ht
  have hn : numsOf its.toArray.toList = ns := by rw [show its.toArray.toList = its from rfl, hi.numsOf]
  rw [hx] at ht' hn
  rw [nums_intItems] at hn
  refine PySem.W.ktm_sumG (I.ok.hd hc) ht' fun h' tk t' hk => ?_
  rw [preSum_eq, List.take_of_length_le (by simp), hn]
  exact ⟨.int _, H, I.kept hk, ⟨_, rfl⟩, q⟩
end
section
variable {X : Cx}
/-- for NAME in zip(e, e2) of two lists: the pair that came first, T0, has to stay -/
def tForZN (K : PySem.W.Frag) (ta : TA) (g : TG) (tb : TS) : TS := fun D σ H => ta σ H fun vs H1 => ∃ a b xs ys, vs = [.ref a, .ref b] ∧ SqL K H1 a xs ∧ SqL K H1 b ys ∧ Stop (∀ T0 : Addr, H1 T0 = none → ∃ W : Nat → Nat → L2.St → Hp → Prop, (∃ m, W 0 m σ H1) ∧ ∀ i m σ H, W i m σ H →
  (0 < i → ∃ u, H T0 = some u) ∧ (((Itz K a b).stop i H ∧ D.nx σ H) ∨ ((Itz K a b).go i H ∧ ∃ N : L2.St → Hp → Prop, (∀ σ' H', N σ' H' → ∃ m', m' < m ∧ W (i + 1) m' σ' H') ∧ ∀ x H', (Itz K a b).yld i H x H' → (i = 0 → x = .ref T0) → g x σ H' fun σ2 H2 => tb { D with nx := N, ct := N, bk := D.nx } σ2 H2)))
/-- the objects of the iterator at turn i -/
def ZnAt (a b z TI TO i1 i2 T0 : Addr) (i : Nat) (h : Heap) : Prop := IsPair h TI (.ref i1) (.ref i2) ∧ (∃ x y, IsPair h TO x y) ∧ h.IsListIter i1 a i ∧ h.IsListIter i2 b i ∧ ((i = 0 ∧ IsZip h z TI TO .none) ∨ (0 < i ∧ ∃ f, PySem.IsZipHeld h z TI TO T0 f))
theorem ZnAt.objs {a b z TI TO i1 i2 T0 : Addr} {i : Nat} {h : Heap} (st : ZnAt a b z TI TO i1 i2 T0 i h) : ∀ c ∈ [z, TI, TO, i1, i2], ∃ o, h.get? c = some o ∧ ∀ v, o.data ≠ .cell v := fun c hc => by
  obtain ⟨hTI, ⟨x, y, hTO⟩, ⟨o1, e1, _, d1⟩, ⟨o2, e2, _, d2⟩, hz⟩ := st
  have hz' : ∃ o, h.get? z = some o ∧ ∀ v, o.data ≠ .cell v := by
    rcases hz with ⟨_, hz⟩ | ⟨_, f, hz⟩
    · exact ⟨_, hz, fun v q => nomatch q⟩
    · exact ⟨_, hz, fun v q => nomatch q⟩
  have e' : c = z ∨ c = TI ∨ c = TO ∨ c = i1 ∨ c = i2 := by simpa using hc
  rcases e' with q | q | q | q | q
  · rw [q]; exact hz'
  · rw [q]; exact ⟨_, hTI, fun v q => nomatch q⟩
  · rw [q]; exact ⟨_, hTO, fun v q => nomatch q⟩
  · rw [q]; exact ⟨o1, e1, fun v q => by rw [d1] at q; cases q⟩
  · rw [q]; exact ⟨o2, e2, fun v q => by rw [d2] at q; cases q⟩
theorem ZnAt.keep {a b z TI TO i1 i2 T0 : Addr} {i : Nat} {h h' : Heap} (st : ZnAt a b z TI TO i1 i2 T0 i h) (k : ∀ c ∈ [z, TI, TO, i1, i2], ∀ o, h.get? c = some o → h'.get? c = some o) : ZnAt a b z TI TO i1 i2 T0 i h' := by
  obtain ⟨hTI, ⟨x, y, hTO⟩, h1, h2, hz⟩ := st
  refine ⟨k TI (by simp) _ hTI, ⟨x, y, k TO (by simp) _ hTO⟩, h1.at fun o q => k i1 (by simp) o q, h2.at fun o q => k i2 (by simp) o q, ?_⟩
  rcases hz with ⟨e, hz⟩ | ⟨e, f, hz⟩
  · exact .inl ⟨e, k z (by simp) _ hz⟩
  · exact .inr ⟨e, f, k z (by simp) _ hz⟩
/-- the next pair -/
theorem zn_item {a b z TI TO i1 i2 T0 : Addr} (D : ZipApart z TI TO i1 i2 a b) {x : Str} {px : Pos} {E : Value → Shared → Prop} {i : Nat} {pins : List (Addr × Obj)} {s : Shared} {σ : L2.St} {H : Hp} (I : Inv X pins σ H s)
    (hf : ∀ c ∈ [z, TI, TO, i1, i2], FpOk X pins H c) (st : ZnAt a b z TI TO i1 i2 T0 i s.heap) (hs : i = 0 → s.heap.objs.size = T0) (hT : 0 < i → ∃ u, H T0 = some u) (hg : (Itz X.K a b).go i H) :
    wpAny (model X.prog X.w) X.A (pyNext (.ref z)) (fun r s1 => ∃ u, r = some u ∧ wpAny (model X.prog X.w) X.A (letOwnedTupleGo (.Name x px) (.ref z) u) (fun _ s2 => ∃ v H', Inv X pins σ H' s2 ∧ RelV v u ∧ ((Itz X.K a b).yld i H v H' ∧ (i = 0 → v = .ref T0)) ∧ ZnAt a b z TI TO i1 i2 T0 (i + 1) s2.heap ∧ ∀ c ∈ [z, TI, TO, i1, i2], H' c = none) E s1) E s := by
  obtain ⟨hTI, ⟨x0, y0, hTO⟩, h1, h2, hz⟩ := st
  obtain ⟨xs, ys, vx, vy, hqx, hqy, hx, hy⟩ := hg
  obtain ⟨its, rv, p, _⟩ := I.list hqx
  obtain ⟨its2, rv2, p2, _⟩ := I.list hqy
  obtain ⟨u, hu, ru⟩ := rv.get hx
  obtain ⟨u2, hu2, ru2⟩ := rv2.get hy
  have lt : ∀ {c : Addr}, c ∈ [z, TI, TO, i1, i2] → c < s.heap.objs.size := fun {c} hcm => by
    obtain ⟨o, e, _⟩ := (show ZnAt a b z TI TO i1 i2 T0 i s.heap from ⟨hTI, ⟨x0, y0, hTO⟩, h1, h2, hz⟩).objs c hcm
    exact Heap.lt_size e
  have fin : ∀ h' : Heap, IsPair h' s.heap.objs.size u u2 → (∀ c o, c ∉ [z, TI, TO, i1, i2] → s.heap.get? c = some o → h'.get? c = some o) →
      Inv X pins σ (upd H s.heap.objs.size (.tup [vx, vy])) { s with heap := h' } ∧ ((Itz X.K a b).yld i H (.ref s.heap.objs.size) (upd H s.heap.objs.size (.tup [vx, vy])) ∧ ∀ c ∈ [z, TI, TO, i1, i2], upd H s.heap.objs.size (.tup [vx, vy]) c = none) := fun h' hT hk => by
    have new : ObjOk X.prog X.w (upd H s.heap.objs.size (.tup [vx, vy])) h' s.heap.objs.size (.tup [vx, vy]) :=
      ⟨by show 2 ≤ sizeLine; decide, [u, u2], .cons ru (.cons ru2 .nil), ⟨_, hT, rfl, _, rfl⟩⟩
    refine ⟨I.turnedNew (t' := s.toks) (ch := [z, TI, TO, i1, i2]) (fun c o hb q => hk c o hb q) hf (Nat.le_refl _) new, ⟨_, vx, vy, rfl, I.hok.fresh (Nat.le_refl _), rfl, fun l hl => by rw [I.list_inj hl hqx]; exact hx, fun l hl => by rw [I.list_inj hl hqy]; exact hy⟩, fun c hcm => ?_⟩
    rw [upd_ne (Nat.ne_of_lt (lt hcm))]
    exact (hf c hcm).1
  rcases hz with ⟨rfl, hz⟩ | ⟨h0, f, hz⟩
  · refine wpAny_pyNext_zip_item D hz hTI hTO h1 h2 p.isList p2.isList (x := u) (y := u2) (by simpa using hu) (by simpa using hu2) fun h' z' TO' h1' h2' hT hsz hk => ?_
    obtain ⟨I1, y1, f1⟩ := fin h' hT fun c o hb q => hk c o (fun q' => hb (by simp [q'])) (fun q' => hb (by simp [q'])) (fun q' => hb (by simp [q'])) (fun q' => hb (by simp [q'])) q
    refine ⟨_, rfl, wpAny_pure ⟨.ref s.heap.objs.size, _, I1, rfl, ⟨y1, fun _ => by rw [hs rfl]⟩, ⟨hk _ _ D.TIz D.TITO D.TIi1 D.TIi2 hTI, ⟨_, _, TO'⟩, h1', h2', .inr ⟨Nat.succ_pos _, false, ?_⟩⟩, f1⟩⟩
    rw [← hs rfl]
    exact z'
  · obtain ⟨o0, ho0⟩ := hT h0
    obtain ⟨oT, hoT⟩ := objOk_get (I.hok T0 o0 ho0)
    refine PySem.wpAny_pyNext_zip_item_held D hz hoT hTI h1 h2 p.isList p2.isList (x := u) (y := u2) (by simpa using hu) (by simpa using hu2) fun h' z' h1' h2' hT hsz hk => ?_
    obtain ⟨I1, y1, f1⟩ := fin h' hT fun c o hb q => hk c o (fun q' => hb (by simp [q'])) (fun q' => hb (by simp [q'])) (fun q' => hb (by simp [q'])) q
    exact ⟨_, rfl, wpAny_pure ⟨.ref s.heap.objs.size, _, I1, rfl, ⟨y1, fun e => absurd e (by omega)⟩, ⟨hk _ _ D.TIz D.TIi1 D.TIi2 hTI, ⟨_, _, hk _ _ D.TOz D.TOi1 D.TOi2 hTO⟩, h1', h2', .inr ⟨Nat.succ_pos _, true, z'⟩⟩, f1⟩⟩
theorem zn_done {a b z TI TO i1 i2 T0 : Addr} (D : ZipApart z TI TO i1 i2 a b) {E : Value → Shared → Prop} {i : Nat} {pins : List (Addr × Obj)} {s : Shared} {σ : L2.St} {H : Hp} (hc : X.calm = true) (I : Inv X pins σ H s)
    (hf : ∀ c ∈ [z, TI, TO, i1, i2], FpOk X pins H c) (st : ZnAt a b z TI TO i1 i2 T0 i s.heap) (hT : 0 < i → ∃ u, H T0 = some u) (hg : (Itz X.K a b).stop i H) :
    wpAny (model X.prog X.w) X.A (pyNext (.ref z)) (fun r s1 => r = none ∧ Inv X pins σ H s1) E s := by
  obtain ⟨hTI, ⟨x0, y0, hTO⟩, h1, h2, hz⟩ := st
  obtain ⟨xs, ys, hqx, hqy, hend⟩ := hg
  obtain ⟨its, rv, p, _⟩ := I.list hqx
  obtain ⟨its2, rv2, p2, _⟩ := I.list hqy
  have l1 := rv.length
  have l2 := rv2.length
  have he : its.toArray[i]? = none ∨ its2.toArray[i]? = none := by
    rcases hend with q | q
    · exact .inl (by simp; omega)
    · exact .inr (by simp; omega)
  rcases hz with ⟨rfl, hz⟩ | ⟨h0, f, hz⟩
  · exact wpAny_pyNext_zip_end (I.ok.hd hc) D hz hTI hTO h1 h2 p.isList p2.isList he fun h' hk => ⟨rfl, I.turnedL (t' := s.toks) (ch := [z, TI, TO, i1, i2]) (fun c o hb q =>
      hk c o (fun q' => hb (by simp [q'])) (fun q' => hb (by simp [q'])) (fun q' => hb (by simp [q'])) (fun q' => hb (by simp [q'])) q) hf⟩
  · obtain ⟨o0, ho0⟩ := hT h0
    obtain ⟨oT, hoT⟩ := objOk_get (I.hok T0 o0 ho0)
    exact PySem.wpAny_pyNext_zip_end_held (I.ok.hd hc) D hz hoT hTI h1 h2 p.isList p2.isList he fun h' hk => ⟨rfl, I.turnedL (t' := s.toks) (ch := [z, TI, TO, i1, i2]) (fun c o hb q =>
      hk c o (fun q' => hb (by simp [q'])) (fun q' => hb (by simp [q'])) (fun q' => hb (by simp [q'])) q) hf⟩
theorem ps_forZN {x : Str} {px p pos cpos : Pos} {e e2 : Expr} {ta : TA} {g : TG} {tb : TS} {body : List Stmt} (hp : PassesOwn (model X.prog X.w) X.A X.env X.xe) (hc : X.calm = true) (hgl : Gl X "zip") (hm : X.mg "zip" = none) (ha : PA X [e, e2] ta)
    (hg : PG X (.Name x px) g) (hb : PSs X body tb)
    (hs : starEach [e, e2] X.env = (false, eval e X.env) :: starEach [e2] X.env := by rfl) (hpl : (backTo cpos (starEach [e2] X.env)).any (·.1) = false := by rfl)
    (hfs : ∀ x, foldedSetIterable (.Call (.Name "zip" p) [e, e2] [] cpos) X.env x = pure x := by intro _; rfl) : PS X (.For (.Name x px) (.Call (.Name "zip" p) [e, e2] [] cpos) body [] pos) (tForZN X.K ta g tb) := by
  refine ⟨fun pins s σ H D I h => ?_⟩
  refine wpAny_For ?_ hfs
  refine Call_ (ld_blt I hgl hm PyProof.Rows.boot_zip (PyProof.Rows.callWith_type1 (thn (ha.run cpos pins s σ H _ I h) fun us s1 ⟨vs, H1, I1, r1, q1⟩ => ?_) hs hpl))
  obtain ⟨a, b, xs, ys, ex, hqx, hqy, q⟩ := q1
  subst ex
  cases r1 with
  | cons r rr =>
    cases rr with
    | cons r' rr =>
      cases rr
      cases r
      cases r'
      obtain ⟨its, rv, p1, _⟩ := I1.list hqx
      obtain ⟨its2, rv2, p2, _⟩ := I1.list hqy
      have la : a < s1.heap.objs.size := p1.lt
      have lb : b < s1.heap.objs.size := p2.lt
      refine call_zip_2 p1.isList p2.isList fun h' hz hTI hTO h1 h2 hsz hk => wpAny_pyIter_zip hz ?_
      have I2 : Inv X pins σ H1 { s1 with heap := h' } := I1.kept (t' := s1.toks) hk
      obtain ⟨T0, hT0⟩ : ∃ T0, T0 = h'.objs.size := ⟨_, rfl⟩
      obtain ⟨W, ⟨m0, w0⟩, turn⟩ := q.h T0 (I2.hok.fresh (by rw [hT0]; exact Nat.le_refl _))
      have D := PySem.W.ktu_apart s1.heap.objs.size a b la lb
      obtain ⟨fp, hfp⟩ : ∃ fp, fp = [s1.heap.objs.size + 4, s1.heap.objs.size + 2, s1.heap.objs.size + 3, s1.heap.objs.size, s1.heap.objs.size + 1] := ⟨_, rfl⟩
      have f2 : ∀ c ∈ fp, FpOk X pins H1 c := fun c hcm => by
        rw [hfp] at hcm
        have e' : c = s1.heap.objs.size + 4 ∨ c = s1.heap.objs.size + 2 ∨ c = s1.heap.objs.size + 3 ∨ c = s1.heap.objs.size ∨ c = s1.heap.objs.size + 1 := by simpa using hcm
        have hle : s1.heap.objs.size ≤ c := by
          rcases e' with z | z | z | z | z
          · rw [z]; exact Nat.le_add_right _ _
          · rw [z]; exact Nat.le_add_right _ _
          · rw [z]; exact Nat.le_add_right _ _
          · rw [z]; exact Nat.le_refl _
          · rw [z]; exact Nat.le_add_right _ _
        exact I1.fpOk hle (I1.hok.fresh hle)
      have stat : ∀ {H' : Hp}, (∀ c ∈ fp, H' c = none) → ∀ c ∈ fp, FpOk X pins H' c := fun hn c hb => ⟨hn c hb, (f2 c hb).2⟩
      refine codeAny_forLoop_any (fun n s' => ∃ i σ' H', Inv X pins σ' H' s' ∧ ZnAt a b (s1.heap.objs.size + 4) (s1.heap.objs.size + 2) (s1.heap.objs.size + 3) s1.heap.objs.size (s1.heap.objs.size + 1) T0 i s'.heap ∧ (∀ c ∈ fp, H' c = none) ∧ W i n σ' H' ∧ (i = 0 → s'.heap.objs.size = T0)) ?_ m0
        ⟨0, σ, H1, I2, ⟨hTI, ⟨_, _, hTO⟩, h1, h2, .inl ⟨rfl, hz⟩⟩, fun c hb => (f2 c hb).1, w0, fun _ => hT0.symm⟩
      rintro n s3 ⟨i, σ3, H3, I3, st3, fr3, w3, hs0⟩
      obtain ⟨alive, tw⟩ := turn i n σ3 H3 w3
      rcases tw with ⟨stop, qn⟩ | ⟨go, N, hN, step⟩
      · refine wpAny_passesOwn hp (thn (zn_done D hc I3 (hfp ▸ stat fr3) st3 alive stop) fun r s4 ⟨hr, I4⟩ => ?_)
        subst hr
        exact wpAny_execs_nil ⟨σ3, H3, I4, qn⟩
      · refine wpAny_passesOwn hp (thn (zn_item (x := x) (px := px) D I3 (hfp ▸ stat fr3) st3 hs0 alive go) fun r s4 ⟨u, hr, h4⟩ => ?_)
        subst hr
        refine wpAny_passesOwn hp (thn h4 fun _ s5 ⟨v, H5, I5, r5, ⟨y5, y6⟩, st5, fr5⟩ => ?_)
        rw [← hfp] at fr5
        have ob5 := hfp ▸ st5.objs
        have I5' := I5.pinned (stat fr5) ob5
        refine wpAny_passesOwn hp (thn (hg.run _ s5 σ3 H5 v u _ I5' r5 (step v H5 y5 y6)) fun _ s6 ⟨σ6, H6, I6, q6⟩ => ?_)
        refine wpAny_passesOwn hp (thn (hb.run _ s6 σ6 H6 _ I6 q6) fun f s7 q7 => ?_)
        have again : ∀ {σ7 : L2.St} {H7 : Hp}, Inv X (pins ++ pinsAt fp s5.heap) σ7 H7 s7 → N σ7 H7 → ∃ m, m < n ∧ ∃ i σ' H', Inv X pins σ' H' s7 ∧ ZnAt a b (s1.heap.objs.size + 4) (s1.heap.objs.size + 2) (s1.heap.objs.size + 3) s1.heap.objs.size (s1.heap.objs.size + 1) T0 i s7.heap ∧ (∀ c ∈ fp, H' c = none) ∧ W i m σ' H' ∧ (i = 0 → s7.heap.objs.size = T0) := fun {σ7 H7} I7 n7 => by
          obtain ⟨m', hm, w7⟩ := hN σ7 H7 n7
          refine ⟨m', hm, i + 1, σ7, H7, I7.unpinned, st5.keep (hfp ▸ fun c hb o e => (I7.pin (c, o) (List.mem_append_right _ (List.mem_append_right _ (mem_pinsAt hb e)))).1), fun c hb => ?_, w7, fun z => absurd z (Nat.succ_ne_zero _)⟩
          obtain ⟨o, e, d⟩ := ob5 c hb
          exact (I7.pin (c, o) (List.mem_append_right _ (List.mem_append_right _ (mem_pinsAt hb e)))).2.1
        cases f with
        | next => obtain ⟨σ7, H7, I7, n7⟩ := q7; exact again I7 n7
        | cont => obtain ⟨σ7, H7, I7, n7⟩ := q7; exact again I7 n7
        | brk => obtain ⟨σ7, H7, I7, q7⟩ := q7; exact ⟨σ7, H7, I7.unpinned, q7⟩
        | ret v => obtain ⟨x7, σ7, H7, I7, r7, q7⟩ := q7; exact ⟨x7, σ7, H7, I7.unpinned, r7, q7⟩
/-- lists of one length that stay -/
theorem for_zipN {K : PySem.W.Frag} {a b : Addr} {xs ys : List V} {g : TG} {tb : TS} {D : L2.Ends} {σ : L2.St} {H : Hp} (hl : xs.length = ys.length) (Pv : Addr → Nat → L2.St → Hp → Prop) (h0 : ∀ T0, H T0 = none → Pv T0 0 σ H)
    (ha : ∀ T0 i σ H, i ≤ xs.length → Pv T0 i σ H → SqL K H a xs ∧ SqL K H b ys ∧ (0 < i → ∃ u, H T0 = some u))
    (hs : ∀ T0 i x y T σ H, xs[i]? = some x → ys[i]? = some y → Pv T0 i σ H → H T = none → (i = 0 → T = T0) → g (.ref T) σ (upd H T (.tup [x, y])) fun σ2 H2 => tb { D with nx := Pv T0 (i + 1), ct := Pv T0 (i + 1), bk := D.nx } σ2 H2) (hd : ∀ T0 σ H, Pv T0 xs.length σ H → D.nx σ H) :
    ∀ T0 : Addr, H T0 = none → ∃ W : Nat → Nat → L2.St → Hp → Prop, (∃ m, W 0 m σ H) ∧ ∀ i m σ H, W i m σ H →
      (0 < i → ∃ u, H T0 = some u) ∧ (((Itz K a b).stop i H ∧ D.nx σ H) ∨ ((Itz K a b).go i H ∧ ∃ N : L2.St → Hp → Prop, (∀ σ' H', N σ' H' → ∃ m', m' < m ∧ W (i + 1) m' σ' H') ∧ ∀ x H', (Itz K a b).yld i H x H' → (i = 0 → x = .ref T0) → g x σ H' fun σ2 H2 => tb { D with nx := N, ct := N, bk := D.nx } σ2 H2)) := by
  intro T0 hT0
  refine ⟨fun i m σ H => m = xs.length - i ∧ i ≤ xs.length ∧ Pv T0 i σ H, ⟨xs.length, by simp, Nat.zero_le _, h0 T0 hT0⟩, ?_⟩
  rintro i m σ H ⟨rfl, hi, p⟩
  obtain ⟨q1, q2, q3⟩ := ha T0 i σ H hi p
  refine ⟨q3, ?_⟩
  by_cases hlt : i < xs.length
  · refine .inr ⟨⟨xs, ys, xs[i], ys[i], q1, q2, by simp [hlt], by simp [hlt, ← hl]⟩, Pv T0 (i + 1), fun σ' H' p' => ⟨xs.length - (i + 1), by omega, rfl, hlt, p'⟩, fun x H' y z => ?_⟩
    obtain ⟨T, x', y', rfl, hT, rfl, hx, hy⟩ := y
    exact hs T0 i x' y' T σ H (hx xs q1) (hy ys q2) p hT (fun e => by have := z e; injection this)
  · have e : i = xs.length := by omega
    subst e
    exact .inl ⟨⟨xs, ys, q1, q2, .inl (Nat.le_refl _)⟩, hd T0 σ H p⟩
end
section
variable {X : Cx} {CX : CXT} {k : Nat} {f : Addr} {fd : FuncData} {ps ks : List Str} {sp : Sp} {E : L2.St → XK} {x : Str} {p pos : Pos} {kws : List Keyword} {tk : TA} {g : List Value → List Value → List Value} {gV : List V → List V → List V}
theorem run_fnkS {pins : List (Addr × Obj)} {σ : L2.St} {H : Hp} {s : Shared} {Q : VK} {us ws : List Value} {vs zs : List V} (F : FnOk X.prog X.w X.K X.mg X.base CX k f fd ps sp) (hr : Room k X.A) (hb : KBinds X.K fd ps ks g gV) (hx : PassesAt CX X σ (E σ))
    (I : Inv X pins σ H s) (r : Vals vs us) (rz : Vals zs ws) (h : sp (gV vs zs) H Q (E σ)) : wpAny (model X.prog X.w) X.A (call (.ref f) us (ks.zip ws)) (EP X pins σ Q) X.xe s := by
  have r2 := hb.rel r rz
  have hl : (g us ws).length = ps.length := by rw [← r2.length]; exact F.len _ _ _ _ h
  refine wpAny_call (codeAny_mono (F.run X.A X.stack s H ⟨us, ks.zip ws⟩ (g us ws) (gV vs zs) Q (E σ) hr I.env0 (hb.to s us ws I.kIn hl) r2 h) fun r s' hq => ?_)
  cases r with
  | error e => exact hx pins H s e s' I hq
  | ok fl =>
    cases fl with
    | ret u => exact I.after hq
    | next => exact False.elim hq
    | brk => exact False.elim hq
    | cont => exact False.elim hq
def tCallKS (sp : Sp) (gV : List V → List V → List V) (E : L2.St → XK) (tk : TA) : TE := fun σ H Q => tk σ H fun zs H2 => sp (gV [] zs) H2 Q (E σ)
/-- f(k=e, ..) that may raise, within a try -/
theorem pe_callKS (F : FnOk X.prog X.w X.K X.mg X.base CX k f fd ps sp) (hr : Room k X.A) (hg : Gl X x) (hm : X.mg x = some (.ref f)) (hk : PySem.W.keepIn X.K (.ref f) = true) (hb : KBinds X.K fd ps ks g gV) (hx : ∀ σ, PassesAt CX X σ (E σ))
    (hkw : PK X kws tk) (hall : (backToKw pos (keywordEach kws X.env)).all (·.1.isSome) = true := by rfl) (hks : (backToKw pos (keywordEach kws X.env)).filterMap (·.1) = ks := by rfl)
    (hdb : (x == ("__debug__" : Str)) = false := by decide)
    (hpl : ((backTo pos (starEach [] X.env)).any (·.1) || (backToKw pos (keywordEach kws X.env)).any (·.1.isNone)) = false := by rfl) :
    PE X (.Call (.Name x p) [] kws pos) (tCallKS sp gV E tk) := by
  refine ⟨fun pins s σ H Q I h => ?_⟩
  refine wpAny_Call_Name_kw (ld_glob I hg hm ?_ hdb)
  refine PySem.W.callWith_KW0 (h₀ := X.base) I.ok.mod.kin hk hall ?_ hpl
  refine thn (hkw.run pos pins s σ H _ I h) fun ws s2 ⟨zs, H2, I2, rz, q2⟩ => ⟨I2.kIn, ?_⟩
  rw [hks]
  exact run_fnkS F hr hb (hx σ) I2 .nil rz q2
end
end Hx

set_option Elab.async false
set_option linter.all false
set_option maxRecDepth 100000
set_option maxHeartbeats 8000000

namespace K77
open PySem PySem.Spec PyProof.Rows L2 Hx
def top (i : Nat) : Stmt := PySem.Challenge.pw_orderlycore_k77_whole_loads_get_what_the.main.body.getD i (.Pass ⟨0, 0, 0, 0⟩)
abbrev s_is_integer : Stmt := top 16
theorem sc_is_integer : FnScope ["value"] ["value"] (defScope s_is_integer) := ⟨rfl, rfl, rfl, by decide +kernel, rfl, by decide +kernel, by decide +kernel⟩
abbrev s_is_count : Stmt := top 17
theorem sc_is_count : FnScope ["value"] ["value"] (defScope s_is_count) := ⟨rfl, rfl, rfl, by decide +kernel, rfl, by decide +kernel, by decide +kernel⟩
abbrev s_is_between : Stmt := top 18
theorem sc_is_between : FnScope ["value", "least", "most"] ["value", "least", "most"] (defScope s_is_between) := ⟨rfl, rfl, rfl, by decide +kernel, rfl, by decide +kernel, by decide +kernel⟩
abbrev s_need_many : Stmt := top 19
theorem sc_need_many : FnScope ["value", "least", "most"] ["value", "least", "most"] (defScope s_need_many) := ⟨rfl, rfl, rfl, by decide +kernel, rfl, by decide +kernel, by decide +kernel⟩
abbrev s_need_number : Stmt := top 20
theorem sc_need_number : FnScope ["value"] ["value"] (defScope s_need_number) := ⟨rfl, rfl, rfl, by decide +kernel, rfl, by decide +kernel, by decide +kernel⟩
abbrev s_is_word : Stmt := top 24
theorem sc_is_word : FnScope ["value"] ["value"] (defScope s_is_word) := ⟨rfl, rfl, rfl, by decide +kernel, rfl, by decide +kernel, by decide +kernel⟩
abbrev s_is_place : Stmt := top 25
theorem sc_is_place : FnScope ["value"] ["value"] (defScope s_is_place) := ⟨rfl, rfl, rfl, by decide +kernel, rfl, by decide +kernel, by decide +kernel⟩
abbrev s_need_word : Stmt := top 26
theorem sc_need_word : FnScope ["value"] ["value"] (defScope s_need_word) := ⟨rfl, rfl, rfl, by decide +kernel, rfl, by decide +kernel, by decide +kernel⟩
abbrev s_need_place : Stmt := top 27
theorem sc_need_place : FnScope ["value"] ["value"] (defScope s_need_place) := ⟨rfl, rfl, rfl, by decide +kernel, rfl, by decide +kernel, by decide +kernel⟩
abbrev s_Queues_init : Stmt := inClass (top 31) 0
theorem sc_Queues_init : FnScope ["self", "loads", "stores"] ["self", "loads", "stores"] (defScope s_Queues_init) := ⟨rfl, rfl, rfl, by decide +kernel, rfl, by decide +kernel, by decide +kernel⟩
abbrev s_Queues_can_load : Stmt := inClass (top 31) 1
theorem sc_Queues_can_load : FnScope ["self"] ["self"] (defScope s_Queues_can_load) := ⟨rfl, rfl, rfl, by decide +kernel, rfl, by decide +kernel, by decide +kernel⟩
abbrev s_Queues_can_store : Stmt := inClass (top 31) 2
theorem sc_Queues_can_store : FnScope ["self"] ["self"] (defScope s_Queues_can_store) := ⟨rfl, rfl, rfl, by decide +kernel, rfl, by decide +kernel, by decide +kernel⟩
abbrev s_Queues_load_entered : Stmt := inClass (top 31) 3
theorem sc_Queues_load_entered : FnScope ["self", "number"] ["self", "number"] (defScope s_Queues_load_entered) := ⟨rfl, rfl, rfl, by decide +kernel, rfl, by decide +kernel, by decide +kernel⟩
abbrev s_Queues_store_entered : Stmt := inClass (top 31) 4
theorem sc_Queues_store_entered : FnScope ["self", "number"] ["self", "number"] (defScope s_Queues_store_entered) := ⟨rfl, rfl, rfl, by decide +kernel, rfl, by decide +kernel, by decide +kernel⟩
abbrev s_Queues_known : Stmt := inClass (top 31) 5
theorem sc_Queues_known : FnScope ["self", "number", "place", "word", "load", "read_place", "source"] ["self", "number", "place", "word"] (defScope s_Queues_known) := ⟨rfl, rfl, rfl, by decide +kernel, rfl, by decide +kernel, by decide +kernel⟩
abbrev s_Queues_source : Stmt := inClass (top 31) 6
theorem sc_Queues_source : FnScope ["self", "number", "place", "found", "store", "store_place", "word"] ["self", "number", "place"] (defScope s_Queues_source) := ⟨rfl, rfl, rfl, by decide +kernel, rfl, by decide +kernel, by decide +kernel⟩
abbrev s_Queues_read : Stmt := inClass (top 31) 7
theorem sc_Queues_read : FnScope ["self", "number", "place", "source"] ["self", "number", "place", "source"] (defScope s_Queues_read) := ⟨rfl, rfl, rfl, by decide +kernel, rfl, by decide +kernel, by decide +kernel⟩
abbrev s_Queues_leave : Stmt := inClass (top 31) 8
theorem sc_Queues_leave : FnScope ["self", "number", "queue"] ["self", "number"] (defScope s_Queues_leave) := ⟨rfl, rfl, rfl, by decide +kernel, rfl, by decide +kernel, by decide +kernel⟩
abbrev s_Queues_dropped : Stmt := inClass (top 31) 9
theorem sc_Queues_dropped : FnScope ["self", "number", "one", "kept"] ["self", "number"] (defScope s_Queues_dropped) := ⟨rfl, rfl, rfl, by decide +kernel, rfl, by decide +kernel, by decide +kernel⟩
abbrev s_Queues_loads : Stmt := inClass (top 31) 10
theorem sc_Queues_loads : FnScope ["self", "number", "place", "source"] ["self"] (defScope s_Queues_loads) := ⟨rfl, rfl, rfl, by decide +kernel, rfl, by decide +kernel, by decide +kernel⟩
abbrev s_Queues_stores : Stmt := inClass (top 31) 11
theorem sc_Queues_stores : FnScope ["self", "number", "place", "word"] ["self"] (defScope s_Queues_stores) := ⟨rfl, rfl, rfl, by decide +kernel, rfl, by decide +kernel, by decide +kernel⟩
abbrev s_Queuesall_numbers : Stmt := inClass (top 31) 14
theorem sc_Queuesall_numbers : FnScope ["self"] ["self"] (defScope s_Queuesall_numbers) := ⟨rfl, rfl, rfl, by decide +kernel, rfl, by decide +kernel, by decide +kernel⟩
abbrev s_Queuesneed_above_all : Stmt := inClass (top 31) 15
theorem sc_Queuesneed_above_all : FnScope ["self", "value", "number"] ["self", "value"] (defScope s_Queuesneed_above_all) := ⟨rfl, rfl, rfl, by decide +kernel, rfl, by decide +kernel, by decide +kernel⟩
abbrev s_Queuesis_source : Stmt := inClass (top 31) 16
theorem sc_Queuesis_source : FnScope ["self", "value", "number", "place"] ["self", "value", "number", "place"] (defScope s_Queuesis_source) := ⟨rfl, rfl, rfl, by decide +kernel, rfl, by decide +kernel, by decide +kernel⟩
abbrev s__is_one_of : Stmt := top 32
theorem sc__is_one_of : FnScope ["queue", "value"] ["queue", "value"] (defScope s__is_one_of) := ⟨rfl, rfl, rfl, by decide +kernel, rfl, by decide +kernel, by decide +kernel⟩
abbrev s__need_one_of : Stmt := top 33
theorem sc__need_one_of : FnScope ["queue", "value"] ["queue", "value"] (defScope s__need_one_of) := ⟨rfl, rfl, rfl, by decide +kernel, rfl, by decide +kernel, by decide +kernel⟩
abbrev s_Lpot : Stmt := top 35
theorem sc_Lpot : FnScope ["_law_script", "_law_k", "_law_cell"] ["_law_script", "_law_k"] (defScope s_Lpot) := ⟨rfl, rfl, rfl, by decide +kernel, rfl, by decide +kernel, by decide +kernel⟩
abbrev s_Ldraw : Stmt := top 36
theorem sc_Ldraw : FnScope ["_law_pot_here", "_law_size", "_law_digit"] ["_law_pot_here", "_law_size"] (defScope s_Ldraw) := ⟨rfl, rfl, rfl, by decide +kernel, rfl, by decide +kernel, by decide +kernel⟩
abbrev s_Lrows : Stmt := top 37
theorem sc_Lrows : FnScope ["_law_pot_here", "_law_found", "_law_turn"] ["_law_pot_here"] (defScope s_Lrows) := ⟨rfl, rfl, rfl, by decide +kernel, rfl, by decide +kernel, by decide +kernel⟩
abbrev s_Lplain : Stmt := top 38
theorem sc_Lplain : FnScope ["_law_rows_here", "_law_memory", "_law_told", "_law_is_store", "_law_place", "_law_word"] ["_law_rows_here"] (defScope s_Lplain) := ⟨rfl, rfl, rfl, by decide +kernel, rfl, by decide +kernel, by decide +kernel⟩
abbrev s_Ldone : Stmt := top 39
theorem sc_Ldone : FnScope ["_law_queues", "_law_memory", "_law_rows_here", "_law_flight", "_law_at", "_law_spot", "_law_number", "_law_is_done", "_law_got", "_law_is_store", "_law_place", "_law_word", "_law_source", "_law_early", "_law_due", "_law_wrong", "_law_one"] ["_law_queues", "_law_memory", "_law_rows_here", "_law_flight", "_law_at"] (defScope s_Ldone) := ⟨rfl, rfl, rfl, by decide +kernel, rfl, by decide +kernel, by decide +kernel⟩
abbrev s_Lread_from : Stmt := top 40
theorem sc_Lread_from : FnScope ["_law_queues", "_law_number", "_law_one", "_law_place", "_law_source"] ["_law_queues", "_law_number"] (defScope s_Lread_from) := ⟨rfl, rfl, rfl, by decide +kernel, rfl, by decide +kernel, by decide +kernel⟩
abbrev s_Lright : Stmt := top 41
theorem sc_Lright : FnScope ["_law_pot_here", "_law_rows_here", "_law_due", "_law_last", "_law_queues", "_law_memory", "_law_flight", "_law_upcoming", "_law_number", "_law_got", "_law_turn", "_law_at", "_law_waiting", "_law_way", "_law_can", "_law_spot", "_law_oldest", "_law_is_done", "_law_told", "_law_early", "_law_one"] ["_law_pot_here"] (defScope s_Lright) := ⟨rfl, rfl, rfl, by decide +kernel, rfl, by decide +kernel, by decide +kernel⟩
abbrev s_law : Stmt := top 42
theorem sc_law : FnScope ["_law_script"] ["_law_script"] (defScope s_law) := ⟨rfl, rfl, rfl, by decide +kernel, rfl, by decide +kernel, by decide +kernel⟩
abbrev F_Queues (v0 v1 v2 v3 : V) : List (Str × V) := [("_load_rooms", v0), ("_store_rooms", v1), ("_loads", v2), ("_stores", v3)]
theorem gt_Queues_load_rooms {v0 v1 v2 v3 : V} : (F_Queues v0 v1 v2 v3).lookup ("_load_rooms" : Str) = some v0 := rfl
theorem pu_Queues_load_rooms {v0 v1 v2 v3 u : V} : putF "_load_rooms" u (F_Queues v0 v1 v2 v3) = F_Queues u v1 v2 v3 := rfl
theorem pi_Queues_load_rooms {v0 : V} : putF "_load_rooms" v0 [] = ([("_load_rooms", v0)] : List (Str × V)) := rfl
theorem gt_Queues_store_rooms {v0 v1 v2 v3 : V} : (F_Queues v0 v1 v2 v3).lookup ("_store_rooms" : Str) = some v1 := rfl
theorem pu_Queues_store_rooms {v0 v1 v2 v3 u : V} : putF "_store_rooms" u (F_Queues v0 v1 v2 v3) = F_Queues v0 u v2 v3 := rfl
theorem pi_Queues_store_rooms {v0 v1 : V} : putF "_store_rooms" v1 [("_load_rooms", v0)] = ([("_load_rooms", v0), ("_store_rooms", v1)] : List (Str × V)) := rfl
theorem gt_Queues_loads {v0 v1 v2 v3 : V} : (F_Queues v0 v1 v2 v3).lookup ("_loads" : Str) = some v2 := rfl
theorem pu_Queues_loads {v0 v1 v2 v3 u : V} : putF "_loads" u (F_Queues v0 v1 v2 v3) = F_Queues v0 v1 u v3 := rfl
theorem pi_Queues_loads {v0 v1 v2 : V} : putF "_loads" v2 [("_load_rooms", v0), ("_store_rooms", v1)] = ([("_load_rooms", v0), ("_store_rooms", v1), ("_loads", v2)] : List (Str × V)) := rfl
theorem gt_Queues_stores {v0 v1 v2 v3 : V} : (F_Queues v0 v1 v2 v3).lookup ("_stores" : Str) = some v3 := rfl
theorem pu_Queues_stores {v0 v1 v2 v3 u : V} : putF "_stores" u (F_Queues v0 v1 v2 v3) = F_Queues v0 v1 v2 u := rfl
theorem pi_Queues_stores {v0 v1 v2 v3 : V} : putF "_stores" v3 [("_load_rooms", v0), ("_store_rooms", v1), ("_loads", v2)] = F_Queues v0 v1 v2 v3 := rfl
structure Txt (K : PySem.W.Frag) (mg : Str → Option Value) where
  C_Queues : Addr
  cl_Queues : Cls K C_Queues
  g_Queues : mg "Queues" = some (.ref C_Queues)
  n_Queues_load_rooms : NoAttr K C_Queues "_load_rooms"
  n_Queues_store_rooms : NoAttr K C_Queues "_store_rooms"
  n_Queues_loads : NoAttr K C_Queues "_loads"
  n_Queues_stores : NoAttr K C_Queues "_stores"
  f_is_integer : Addr
  fd_is_integer : FuncData
  F_is_integer : Fun K "is_integer" "is_integer" s_is_integer f_is_integer fd_is_integer
  g_is_integer : mg "is_integer" = some (.ref f_is_integer)
  b_is_integer : Binds K fd_is_integer ["value"] []
  f_is_count : Addr
  fd_is_count : FuncData
  F_is_count : Fun K "is_count" "is_count" s_is_count f_is_count fd_is_count
  g_is_count : mg "is_count" = some (.ref f_is_count)
  b_is_count : Binds K fd_is_count ["value"] []
  f_is_between : Addr
  fd_is_between : FuncData
  F_is_between : Fun K "is_between" "is_between" s_is_between f_is_between fd_is_between
  g_is_between : mg "is_between" = some (.ref f_is_between)
  b_is_between : Binds K fd_is_between ["value", "least", "most"] []
  f_need_many : Addr
  fd_need_many : FuncData
  F_need_many : Fun K "need_many" "need_many" s_need_many f_need_many fd_need_many
  g_need_many : mg "need_many" = some (.ref f_need_many)
  b_need_many : Binds K fd_need_many ["value", "least", "most"] []
  f_need_number : Addr
  fd_need_number : FuncData
  F_need_number : Fun K "need_number" "need_number" s_need_number f_need_number fd_need_number
  g_need_number : mg "need_number" = some (.ref f_need_number)
  b_need_number : Binds K fd_need_number ["value"] []
  f_is_word : Addr
  fd_is_word : FuncData
  F_is_word : Fun K "is_word" "is_word" s_is_word f_is_word fd_is_word
  g_is_word : mg "is_word" = some (.ref f_is_word)
  b_is_word : Binds K fd_is_word ["value"] []
  f_is_place : Addr
  fd_is_place : FuncData
  F_is_place : Fun K "is_place" "is_place" s_is_place f_is_place fd_is_place
  g_is_place : mg "is_place" = some (.ref f_is_place)
  b_is_place : Binds K fd_is_place ["value"] []
  f_need_word : Addr
  fd_need_word : FuncData
  F_need_word : Fun K "need_word" "need_word" s_need_word f_need_word fd_need_word
  g_need_word : mg "need_word" = some (.ref f_need_word)
  b_need_word : Binds K fd_need_word ["value"] []
  f_need_place : Addr
  fd_need_place : FuncData
  F_need_place : Fun K "need_place" "need_place" s_need_place f_need_place fd_need_place
  g_need_place : mg "need_place" = some (.ref f_need_place)
  b_need_place : Binds K fd_need_place ["value"] []
  f_Queues_init : Addr
  fd_Queues_init : FuncData
  F_Queues_init : Fun K "__init__" "Queues.__init__" s_Queues_init f_Queues_init fd_Queues_init
  b_Queues_init : Binds K fd_Queues_init ["self", "loads", "stores"] []
  mk_Queues : Mk K C_Queues f_Queues_init
  f_Queues_can_load : Addr
  fd_Queues_can_load : FuncData
  F_Queues_can_load : Fun K "can_load" "Queues.can_load" s_Queues_can_load f_Queues_can_load fd_Queues_can_load
  b_Queues_can_load : Binds K fd_Queues_can_load ["self"] []
  pa_Queues_can_load : Addr
  p_Queues_can_load : PropOf K C_Queues "can_load" pa_Queues_can_load f_Queues_can_load
  f_Queues_can_store : Addr
  fd_Queues_can_store : FuncData
  F_Queues_can_store : Fun K "can_store" "Queues.can_store" s_Queues_can_store f_Queues_can_store fd_Queues_can_store
  b_Queues_can_store : Binds K fd_Queues_can_store ["self"] []
  pa_Queues_can_store : Addr
  p_Queues_can_store : PropOf K C_Queues "can_store" pa_Queues_can_store f_Queues_can_store
  f_Queues_load_entered : Addr
  fd_Queues_load_entered : FuncData
  F_Queues_load_entered : Fun K "load_entered" "Queues.load_entered" s_Queues_load_entered f_Queues_load_entered fd_Queues_load_entered
  b_Queues_load_entered : Binds K fd_Queues_load_entered ["self", "number"] []
  me_Queues_load_entered : Meth K C_Queues "load_entered" f_Queues_load_entered
  f_Queues_store_entered : Addr
  fd_Queues_store_entered : FuncData
  F_Queues_store_entered : Fun K "store_entered" "Queues.store_entered" s_Queues_store_entered f_Queues_store_entered fd_Queues_store_entered
  b_Queues_store_entered : Binds K fd_Queues_store_entered ["self", "number"] []
  me_Queues_store_entered : Meth K C_Queues "store_entered" f_Queues_store_entered
  f_Queues_known : Addr
  fd_Queues_known : FuncData
  F_Queues_known : Fun K "known" "Queues.known" s_Queues_known f_Queues_known fd_Queues_known
  b_Queues_known : Binds K fd_Queues_known ["self", "number", "place", "word"] []
  me_Queues_known : Meth K C_Queues "known" f_Queues_known
  f_Queues_source : Addr
  fd_Queues_source : FuncData
  F_Queues_source : Fun K "source" "Queues.source" s_Queues_source f_Queues_source fd_Queues_source
  b_Queues_source : Binds K fd_Queues_source ["self", "number", "place"] []
  me_Queues_source : Meth K C_Queues "source" f_Queues_source
  f_Queues_read : Addr
  fd_Queues_read : FuncData
  F_Queues_read : Fun K "read" "Queues.read" s_Queues_read f_Queues_read fd_Queues_read
  b_Queues_read : Binds K fd_Queues_read ["self", "number", "place", "source"] []
  me_Queues_read : Meth K C_Queues "read" f_Queues_read
  f_Queues_leave : Addr
  fd_Queues_leave : FuncData
  F_Queues_leave : Fun K "leave" "Queues.leave" s_Queues_leave f_Queues_leave fd_Queues_leave
  b_Queues_leave : Binds K fd_Queues_leave ["self", "number"] []
  me_Queues_leave : Meth K C_Queues "leave" f_Queues_leave
  f_Queues_dropped : Addr
  fd_Queues_dropped : FuncData
  F_Queues_dropped : Fun K "dropped" "Queues.dropped" s_Queues_dropped f_Queues_dropped fd_Queues_dropped
  b_Queues_dropped : Binds K fd_Queues_dropped ["self", "number"] []
  me_Queues_dropped : Meth K C_Queues "dropped" f_Queues_dropped
  f_Queues_loads : Addr
  fd_Queues_loads : FuncData
  F_Queues_loads : Fun K "loads" "Queues.loads" s_Queues_loads f_Queues_loads fd_Queues_loads
  b_Queues_loads : Binds K fd_Queues_loads ["self"] []
  me_Queues_loads : Meth K C_Queues "loads" f_Queues_loads
  f_Queues_stores : Addr
  fd_Queues_stores : FuncData
  F_Queues_stores : Fun K "stores" "Queues.stores" s_Queues_stores f_Queues_stores fd_Queues_stores
  b_Queues_stores : Binds K fd_Queues_stores ["self"] []
  me_Queues_stores : Meth K C_Queues "stores" f_Queues_stores
  f_Queuesall_numbers : Addr
  fd_Queuesall_numbers : FuncData
  F_Queuesall_numbers : Fun K "_all_numbers" "Queues._all_numbers" s_Queuesall_numbers f_Queuesall_numbers fd_Queuesall_numbers
  b_Queuesall_numbers : Binds K fd_Queuesall_numbers ["self"] []
  me_Queuesall_numbers : Meth K C_Queues "_all_numbers" f_Queuesall_numbers
  f_Queuesneed_above_all : Addr
  fd_Queuesneed_above_all : FuncData
  F_Queuesneed_above_all : Fun K "_need_above_all" "Queues._need_above_all" s_Queuesneed_above_all f_Queuesneed_above_all fd_Queuesneed_above_all
  b_Queuesneed_above_all : Binds K fd_Queuesneed_above_all ["self", "value"] []
  me_Queuesneed_above_all : Meth K C_Queues "_need_above_all" f_Queuesneed_above_all
  f_Queuesis_source : Addr
  fd_Queuesis_source : FuncData
  F_Queuesis_source : Fun K "_is_source" "Queues._is_source" s_Queuesis_source f_Queuesis_source fd_Queuesis_source
  b_Queuesis_source : Binds K fd_Queuesis_source ["self", "value", "number", "place"] []
  me_Queuesis_source : Meth K C_Queues "_is_source" f_Queuesis_source
  f__is_one_of : Addr
  fd__is_one_of : FuncData
  F__is_one_of : Fun K "_is_one_of" "_is_one_of" s__is_one_of f__is_one_of fd__is_one_of
  g__is_one_of : mg "_is_one_of" = some (.ref f__is_one_of)
  b__is_one_of : Binds K fd__is_one_of ["queue", "value"] []
  f__need_one_of : Addr
  fd__need_one_of : FuncData
  F__need_one_of : Fun K "_need_one_of" "_need_one_of" s__need_one_of f__need_one_of fd__need_one_of
  g__need_one_of : mg "_need_one_of" = some (.ref f__need_one_of)
  b__need_one_of : Binds K fd__need_one_of ["queue", "value"] []
  f_Lpot : Addr
  fd_Lpot : FuncData
  F_Lpot : Fun K "_law_pot" "_law_pot" s_Lpot f_Lpot fd_Lpot
  g_Lpot : mg "_law_pot" = some (.ref f_Lpot)
  b_Lpot : Binds K fd_Lpot ["_law_script", "_law_k"] []
  f_Ldraw : Addr
  fd_Ldraw : FuncData
  F_Ldraw : Fun K "_law_draw" "_law_draw" s_Ldraw f_Ldraw fd_Ldraw
  g_Ldraw : mg "_law_draw" = some (.ref f_Ldraw)
  b_Ldraw : Binds K fd_Ldraw ["_law_pot_here", "_law_size"] []
  f_Lrows : Addr
  fd_Lrows : FuncData
  F_Lrows : Fun K "_law_rows" "_law_rows" s_Lrows f_Lrows fd_Lrows
  g_Lrows : mg "_law_rows" = some (.ref f_Lrows)
  b_Lrows : Binds K fd_Lrows ["_law_pot_here"] []
  f_Lplain : Addr
  fd_Lplain : FuncData
  F_Lplain : Fun K "_law_plain" "_law_plain" s_Lplain f_Lplain fd_Lplain
  g_Lplain : mg "_law_plain" = some (.ref f_Lplain)
  b_Lplain : Binds K fd_Lplain ["_law_rows_here"] []
  f_Ldone : Addr
  fd_Ldone : FuncData
  F_Ldone : Fun K "_law_done" "_law_done" s_Ldone f_Ldone fd_Ldone
  g_Ldone : mg "_law_done" = some (.ref f_Ldone)
  b_Ldone : Binds K fd_Ldone ["_law_queues", "_law_memory", "_law_rows_here", "_law_flight", "_law_at"] []
  f_Lread_from : Addr
  fd_Lread_from : FuncData
  F_Lread_from : Fun K "_law_read_from" "_law_read_from" s_Lread_from f_Lread_from fd_Lread_from
  g_Lread_from : mg "_law_read_from" = some (.ref f_Lread_from)
  b_Lread_from : Binds K fd_Lread_from ["_law_queues", "_law_number"] []
  f_Lright : Addr
  fd_Lright : FuncData
  F_Lright : Fun K "_law_right" "_law_right" s_Lright f_Lright fd_Lright
  g_Lright : mg "_law_right" = some (.ref f_Lright)
  b_Lright : Binds K fd_Lright ["_law_pot_here"] []
  f_law : Addr
  fd_law : FuncData
  F_law : Fun K "law" "law" s_law f_law fd_law
  g_law : mg "law" = some (.ref f_law)
  b_law : Binds K fd_law ["_law_script"] []
  m_abs : mg "abs" = none
  m_any : mg "any" = none
  m_bool : mg "bool" = none
  m_divmod : mg "divmod" = none
  m_enumerate : mg "enumerate" = none
  m_int : mg "int" = none
  m_isinstance : mg "isinstance" = none
  m_len : mg "len" = none
  m_list : mg "list" = none
  m_max : mg "max" = none
  m_min : mg "min" = none
  m_range : mg "range" = none
  c_WORDS : ∃ t, mg "WORDS" = some (.int 65536 t)
  c_PLACES : ∃ t, mg "PLACES" = some (.int 1024 t)
  c__MOST_ROOMS : ∃ t, mg "_MOST_ROOMS" = some (.int 8 t)
  aN : Addr
  gN : mg "_NOTHING" = some (.ref aN)
  lN : ∃ n, K.lookup aN = some ⟨.type "tuple", none, .seq #[.none, .none] n, #[]⟩
abbrev QR := Int × Option Int × Option Int
def oV : Option Int → V
  | none => .non
  | some i => .int i
def oD : Option Int → PyData
  | none => .none
  | some i => .int i
def ik (rs : List (Int × PyData)) : List (Key × PyData) := rs.map fun r => (Sum.inl r.1, r.2)
def qD (rs : List QR) : List (Int × PyData) := rs.map fun r => (r.1, .tuple [oD r.2.1, oD r.2.2])
def rD (r : QR) : PyData := .tuple [.int r.1, oD r.2.1, oD r.2.2]
def qu (C x dx l s : Addr) (a b : Int) (ls ss : List QR) : List (Addr × Ob) := [(x, .raw (.ins C dx (F_Queues (.int a) (.int b) (.ref l) (.ref s)))), (l, .D (ik (qD ls))), (s, .D (ik (qD ss)))]

end K77

set_option Elab.async false
set_option linter.all false
set_option maxRecDepth 100000
set_option maxHeartbeats 8000000

namespace K77
open PySem PySem.Spec PyProof.Rows L2 Hx 
local macro_rules | `(tactic| walk_at "sm") => `(tactic| repeat' (first | assumption | apply Hx.Same.upd | exact L2.Same.refl _ | apply same_trans'))
local macro_rules | `(tactic| walk_at "hp") => `(tactic| repeat' (first | assumption | exact upd_same | apply old_upd | apply same_at))
local macro_rules | `(tactic| walk_at "rd") => `(tactic| repeat' (first | rfl | apply Exists.intro | apply And.intro | refine iteT ?_ | refine iteF ?_ | exact upd_same | exact SqL.of (by assumption) | exact SqL.of upd_same | exact SqT.of upd_same | exact SqT.of (by assumption) | ((with_reducible show (_ : Int) < _); omega) | ((with_reducible show (_ : Int) ≤ _); omega) | (show (_ : Prop); assumption) | exact Or.inl ⟨_, by assumption, rfl⟩ | exact Or.inl ⟨rfl, _, SqL.of (by assumption)⟩ | exact Or.inl ⟨rfl, _, SqL.of upd_same⟩ | apply old_upd | apply Hx.SqL.new | apply tyl_new | apply Pot.new | exact same_at (by assumption) (by assumption) | exact Or.inl (SqL.of (by assumption)) | exact Or.inl (by assumption) | exact Or.inl (SqL.of upd_same) | exact size_le (Nat.le_of_ble_eq_true rfl) | exact Nat.le_of_ble_eq_true rfl | exact True.intro | exact Or.inl rfl | exact Or.inr rfl | (show (_ : Prop); omega) | (show (_ : Prop); dsimp only; omega) | exact mulw64 (by omega) (by omega) | exact mulw64 (by (try dsimp only); omega) (by (try dsimp only); omega)))
set_option hygiene false in
local macro_rules | `(tactic| walk_at "fl") => `(tactic| simp only [pu_Queues_load_rooms, pi_Queues_load_rooms, pu_Queues_store_rooms, pi_Queues_store_rooms, pu_Queues_loads, pi_Queues_loads, pu_Queues_stores, pi_Queues_stores] at hO)
local macro_rules | `(tactic| walk_at "mem") => `(tactic| ((repeat (first | exact List.Mem.head _ | apply List.Mem.tail | fail)); done))
local macro_rules | `(tactic| walk_at "setat") => `(tactic| ((repeat (first | (with_reducible exact At.head) | (with_reducible apply At.tail) | (with_reducible apply At.app) | fail)); done))
set_option hygiene false in
local macro_rules | `(tactic| walk_at "dv") => `(tactic| ((repeat' (first | exact Dv.nil | exact Dv.of (by walk_at "mem") | exact Dv.ints _ | exact Dv1.of (by walk_at "mem") | exact Dv1.int _ | exact Dv1.non | exact Dv1.bl _ | exact Dv1.str _ | (with_reducible apply Dv.cons) | refine Dv1.tup (by walk_at "mem") ?_ | refine Dv1.lst (by walk_at "mem") ?_ | (with_reducible apply Dv.app) | fail)); done))
local macro_rules | `(tactic| walk_at "ft") => `(tactic| (first | (with_reducible exact Ft.refl) | ((with_reducible apply Ft.toL); focus walk_at "dv") | ((with_reducible apply Ft.toS); focus assumption) | (with_reducible apply Ft.lst) | (with_reducible apply Ft.Le) | (with_reducible apply Ft.dK) | (with_reducible apply Ft.De) | (with_reducible apply Ft.ins) | (with_reducible apply Ft.toL) | (with_reducible apply Ft.toS) | (with_reducible apply Ft.toD) | fail))
local macro_rules | `(tactic| walk_at "sbL") => `(tactic| repeat' (first | (with_reducible exact Sb.refl _) | exact Sb.nil | (with_reducible apply Sb.cons) | (with_reducible apply Sb.app) | (with_reducible exact Pk.one) | (with_reducible exact Pk.here) | (with_reducible exact Pk.all) | (with_reducible apply Pk.skip1) | (with_reducible apply Pk.skipB) | (with_reducible apply Sb.skip) | (with_reducible apply Sb.skipB) | ((with_reducible show Ft _ _ _ _); walk_at "ft") | ((with_reducible show (_ : List _) = _); (first | rfl | (simp [List.map_set, List.map_append]; done) | fail)) | fail))
local macro_rules | `(tactic| walk_at "sb") => `(tactic| ((walk_at "sbL"); done))
local macro_rules | `(tactic| walk_at "ps") => `(tactic| ((repeat' (first | (with_reducible exact Ps.refl) | exact Ps.nil | (with_reducible apply Ps.cons) | exact List.Mem.head _ | apply List.Mem.tail | (with_reducible apply Ps.skip) | fail)); done))
set_option hygiene false in
local macro_rules | `(tactic| walk_at "at") => `(tactic| first | assumption | exact Own.raw hO (by walk_at "mem") | exact Own.ptup hO (by walk_at "mem") | exact Own.plst hO (by walk_at "mem") | fail)
set_option hygiene false in
local macro_rules | `(tactic| walk_at "st") => `(tactic| (rw [upd_mkO hO]; generalize e : updX _ _ _ = H1; (first | ((apply Own.cset hO e); (focus walk_at "setat"); (try clear hO e); intro hO) | ((apply Own.cnewT hO e); (focus assumption); (try clear hO e); intro hO) | ((apply Own.cnew hO e); (focus assumption); (try clear hO e); intro hO) | fail)))
set_option hygiene false in
local macro_rules | `(tactic| walk_at "mk") => `(tactic| (intro p1 p2 f1 f2 f3; rw [upd_mkO hO]; generalize e : upd (updX _ _ _) _ _ = H1; apply Own.cmake hO f1 f2 f3 e; (try clear hO e); intro hO))
set_option hygiene false in
local macro_rules | `(tactic| walk_at "own") => `(tactic| (first | ((apply Own.sub hO); (focus walk_at "sb"); (focus walk_at "ps")) | ((apply Own.sub hF); (focus walk_at "sb"); (focus walk_at "ps")) | fail))
set_option hygiene false in
local macro_rules | `(tactic| walk_at "fin") => `(tactic| (refine Own.sub hO ?_ (by walk_at "ps"); walk_at "sbL"))
set_option hygiene false in
local macro_rules | `(tactic| walk_at "g1") => `(tactic| (first
 | ((with_reducible show (_ : Option HO) = _); walk_at "at")
 | ((with_reducible show (_ : Int) < _); omega) | ((with_reducible show (_ : Int) ≤ _); omega)
 | ((with_reducible show (_ : Nat) < _); (first | assumption | exact Nat.le_of_ble_eq_true rfl | exact size_lt (Nat.le_of_ble_eq_true rfl) | omega | (simp; done) | (simp; omega) | fail))
 | ((with_reducible show (_ : Nat) ≤ _); (first | assumption | exact Nat.le_of_ble_eq_true rfl | exact size_le (Nat.le_of_ble_eq_true rfl) | omega | (simp; done) | (simp; omega) | fail))
 | ((with_reducible show Own _ _ _ _); (first | walk_at "own" | (walk_at "st"; walk_at "own") | fail))
 | ((with_reducible show SqL _ _ _ _); (first | assumption | exact SqL.of (by walk_at "at") | fail))
 | ((with_reducible show SqT _ _ _ _); (first | assumption | exact hO.psq (by walk_at "mem") | exact SqT.of (by walk_at "at") | fail))
  | ((with_reducible show Cls _ _); exact Txt.cl_Queues T) | ((with_reducible show NoAttr _ _ _); exact Txt.n_Queues_load_rooms T) | (with_reducible exact gt_Queues_load_rooms) | ((with_reducible show NoAttr _ _ _); exact Txt.n_Queues_store_rooms T) | (with_reducible exact gt_Queues_store_rooms) | ((with_reducible show NoAttr _ _ _); exact Txt.n_Queues_loads T) | (with_reducible exact gt_Queues_loads) | ((with_reducible show NoAttr _ _ _); exact Txt.n_Queues_stores T) | (with_reducible exact gt_Queues_stores)  | ((with_reducible show V.ref _ = V.ref _); (first | rfl | fail))
 | ((with_reducible show DGet _ _ _ _); (first | exact DGet.ki (by walk_at "at") (by assumption) | exact DGet.kiF (by walk_at "at") (by assumption) | fail))
 | ((with_reducible show DPut _ _ _ _ _); exact DPut.ki (by walk_at "at") (by assumption))
 | ((with_reducible show Rd _ _ _); (first | exact Or.inl (by walk_at "at") | exact Or.inr ⟨_, by walk_at "at"⟩ | fail))
 | ((with_reducible show (∃ _ : List (Key × V), _) ∨ _); refine Or.inl ⟨_, by walk_at "at", ?_⟩)
 | ((with_reducible show Dv _ _ _ _); focus walk_at "dv") | ((with_reducible show Dv1 _ _ _ _); focus walk_at "dv")
 | ((with_reducible show IsD _ _); exact Or.inl ⟨_, Or.inl (by walk_at "at")⟩)
 | ((with_reducible show V.int _ = kV _); exact kV_int)
 | ((with_reducible show Option.isSome _ = true); (first | exact isSome_ofV (by assumption) | assumption | fail))
 | ((with_reducible show SqL _ _ _ _ ∨ SqT _ _ _ _); (first | exact Or.inl (by assumption) | exact Or.inr (by assumption) | exact Or.inl (SqL.of (by walk_at "at")) | exact Or.inr (SqT.of (by walk_at "at")) | fail))
 | ((with_reducible show Dp _ _ _ _); (first | assumption | exact hO.dpL (by walk_at "mem") | exact .lst (SqL.of (by walk_at "at")) (hO.all (by walk_at "dv")) | exact hO.one (by walk_at "dv") | fail))
 | ((with_reducible show TruV _ _ _ _); (first | exact Or.inl ⟨_, SqL.of (by walk_at "at"), rfl⟩ | exact Or.inr (Or.inr ⟨_, by walk_at "at", rfl⟩) | exact Or.inr (Or.inl ⟨_, SqT.of (by walk_at "at"), rfl⟩) | fail))
 | ((with_reducible show RgOk _ _); exact RgOk.of_le (by omega) (by omega) (by omega) (by omega))
 | rfl | (with_reducible assumption) | apply And.intro | apply Exists.intro | refine iteT ?_ | refine iteF ?_
 | (walk_at "st"; (try walk_at "fl"))
 | ((with_reducible show ∀ _ : Addr, _ = none → _); (fail_if_success (with_reducible show ∀ _ : Addr, _ = none → ∃ _ : Nat → Nat → Hp → Prop, _)); intro p fp; walk_at "st")
 | (refine Or.inl ⟨SqL.of (by walk_at "at"), ?_⟩) | (refine Or.inr ⟨SqT.of (by walk_at "at"), ?_⟩) | exact Or.inl ⟨_, by walk_at "at", rfl⟩ | exact Or.inl ⟨rfl, _, SqL.of (by walk_at "at")⟩ | exact tyl_of (by walk_at "at") | exact Or.inl (SqL.of (by walk_at "at")) | exact Or.inr (SqT.of (by walk_at "at")) | exact Or.inl (by walk_at "at") | exact size_le (Nat.le_of_ble_eq_true rfl) | exact Nat.le_of_ble_eq_true rfl | exact True.intro | exact Or.inl rfl | exact Or.inr rfl | (show (_ : Prop); assumption) | (show (_ : Prop); omega) | (show (_ : Prop); dsimp only; omega) | exact mulw64 (by omega) (by omega) | exact mulw64 (by (try dsimp only); omega) (by (try dsimp only); omega) | fail))
local macro_rules | `(tactic| walk_at "go") => `(tactic| repeat walk_at "g1")

section
variable {P : Program} {w : World} {K : PySem.W.Frag} {mg : Str → Option Value} {base : Heap}
def sp_is_integer : Sp := fun vs H Q _ => ∃ i : Int, vs = [.int i] ∧ Q (.bl true) H
theorem ok_is_integer (T : Txt K mg) : FnOk P w K mg base CX0 1 T.f_is_integer T.fd_is_integer ["value"] (sp_is_integer) := by
  refine T.F_is_integer.ok sc_is_integer (fun vs H Q E h => ?_) (fun cdv A outer s H vs Q E hr h => ?_)
  · obtain ⟨i, rfl, k⟩ := h; rfl
  · obtain ⟨i, rfl, k⟩ := h
    refine ⟨_, (pss_one (ps_ret (pe_and (pe_callB call_isi (by rfl) T.m_isinstance (by decide +kernel) (pa_cons (pv 0) (pa_cons (pe_bltn (v := .ty "int") (u := .type "int") (by rfl) T.m_int (by decide +kernel) rfl) pa_nil))) (pe_one (pe_not (pe_callB call_isi (by rfl) T.m_isinstance (by decide +kernel) (pa_cons (pv 0) (pa_cons (pe_bltn (v := .ty "bool") (u := .type "bool") (by rfl) T.m_bool (by decide +kernel) rfl) pa_nil)))))))), ?_⟩
    clear hr
    refine ⟨_, rfl, _, _, _, _, true, rfl, .ty _, .base (.int _), kit_ty (by decide +kernel), true, rfl, iteT ?_⟩
    refine ⟨_, rfl, _, _, _, _, false, rfl, .ty _, .base (.int _), kit_ty (by decide +kernel), false, rfl, k⟩
def sp_is_count : Sp := fun vs H Q _ => ∃ i : Int, vs = [.int i] ∧ 0 ≤ i ∧ Q (.bl true) H
theorem ok_is_count (T : Txt K mg) : FnOk P w K mg base CX0 2 T.f_is_count T.fd_is_count ["value"] (sp_is_count) := by
  have G_is_integer := ok_is_integer (P := P) (w := w) (base := base) T
  refine T.F_is_count.ok sc_is_count (fun vs H Q E h => ?_) (fun cdv A outer s H vs Q E hr h => ?_)
  · obtain ⟨i, rfl, hi, k⟩ := h; rfl
  · obtain ⟨i, rfl, hi, k⟩ := h
    refine ⟨_, (pss_one (ps_ret (pe_and (pe_call G_is_integer (hr.mono (by decide)) rfl T.g_is_integer T.F_is_integer.kp T.b_is_integer .nil pass0 (pa_cons (pv 0) pa_nil)) (pe_one (pe_cmpR op_ge (pv 0) pe_int (nomark _)))))), ?_⟩
    clear G_is_integer
    clear hr
    walk_at "rd"
    exact qbl k (decide_eq_true (by omega))
def sp_is_between : Sp := fun vs H Q _ => ∃ i a b : Int, vs = [.int i, .int a, .int b] ∧ Q (.bl (decide (a ≤ i ∧ i ≤ b))) H
theorem ok_is_between (T : Txt K mg) : FnOk P w K mg base CX0 2 T.f_is_between T.fd_is_between ["value", "least", "most"] (sp_is_between) := by
  have G_is_integer := ok_is_integer (P := P) (w := w) (base := base) T
  refine T.F_is_between.ok sc_is_between (fun vs H Q E h => ?_) (fun cdv A outer s H vs Q E hr h => ?_)
  · obtain ⟨i, a, b, rfl, k⟩ := h; rfl
  · obtain ⟨i, a, b, rfl, k⟩ := h
    refine ⟨_, (pss_one (ps_ret (pe_and (pe_call G_is_integer (hr.mono (by decide)) rfl T.g_is_integer T.F_is_integer.kp T.b_is_integer .nil pass0 (pa_cons (pv 0) pa_nil)) (pe_one (pe_chain op_le op_le (pv 1) (pv 0) (pv 2)))))), ?_⟩
    clear G_is_integer
    clear hr
    walk_at "rd"
    refine iteD (fun h1 => ?_) (fun h1 => ?_)
    · walk_at "rd"; exact qbl k (by simp [h1])
    · exact qbl k (by simp [h1])
def sp_need_many : Sp := fun vs H Q _ => ∃ i a b : Int, vs = [.int i, .int a, .int b] ∧ a ≤ i ∧ i ≤ b ∧ Q .non H
theorem ok_need_many (T : Txt K mg) : FnOk P w K mg base CX0 3 T.f_need_many T.fd_need_many ["value", "least", "most"] (sp_need_many) := by
  have G_is_between := ok_is_between (P := P) (w := w) (base := base) T
  refine T.F_need_many.ok sc_need_many (fun vs H Q E h => ?_) (fun cdv A outer s H vs Q E hr h => ?_)
  · obtain ⟨i, a, b, rfl, h1, h2, k⟩ := h; rfl
  · obtain ⟨i, a, b, rfl, h1, h2, k⟩ := h
    refine ⟨_, (pss_one (ps_if (pt_not (pt_val (pe_call G_is_between (hr.mono (by decide)) rfl T.g_is_between T.F_is_between.kp T.b_is_between .nil pass0 (pa_cons (pv 0) (pa_cons (pv 1) (pa_cons (pv 2) pa_nil))))))
          (pss_one ps_never)
          pss_nil)), ?_⟩
    clear G_is_between
    clear hr
    walk_at "rd"
    rw [decide_eq_true (show a ≤ i ∧ i ≤ b from ⟨h1, h2⟩)]
    walk_at "rd"
def sp_need_number : Sp := fun vs H Q _ => ∃ i : Int, vs = [.int i] ∧ 0 ≤ i ∧ Q .non H
theorem ok_need_number (T : Txt K mg) : FnOk P w K mg base CX0 3 T.f_need_number T.fd_need_number ["value"] (sp_need_number) := by
  have G_is_count := ok_is_count (P := P) (w := w) (base := base) T
  refine T.F_need_number.ok sc_need_number (fun vs H Q E h => ?_) (fun cdv A outer s H vs Q E hr h => ?_)
  · obtain ⟨i, rfl, hi, k⟩ := h; rfl
  · obtain ⟨i, rfl, hi, k⟩ := h
    refine ⟨_, (pss_one (ps_if (pt_not (pt_val (pe_call G_is_count (hr.mono (by decide)) rfl T.g_is_count T.F_is_count.kp T.b_is_count .nil pass0 (pa_cons (pv 0) pa_nil))))
          (pss_one ps_never)
          pss_nil)), ?_⟩
    clear G_is_count
    clear hr
    walk_at "rd"
def sp_is_word : Sp := fun vs H Q _ => ∃ i : Int, vs = [.int i] ∧ (0 ≤ i ∧ i < 65536) ∧ Q (.bl true) H
theorem ok_is_word (T : Txt K mg) : FnOk P w K mg base CX0 3 T.f_is_word T.fd_is_word ["value"] (sp_is_word) := by
  have G_is_between := ok_is_between (P := P) (w := w) (base := base) T
  refine T.F_is_word.ok sc_is_word (fun vs H Q E h => ?_) (fun cdv A outer s H vs Q E hr h => ?_)
  · obtain ⟨i, rfl, hi, k⟩ := h; rfl
  · obtain ⟨i, rfl, hi, k⟩ := h
    refine ⟨_, (pss_one (ps_ret (pe_call G_is_between (hr.mono (by decide)) rfl T.g_is_between T.F_is_between.kp T.b_is_between .nil pass0 (pa_cons (pv 0) (pa_cons pe_int (pa_cons (pe_op op_sub (pe_gint rfl T.c_WORDS) pe_int) pa_nil)))))), ?_⟩
    clear G_is_between
    clear hr
    walk_at "rd"
    exact qbl k (decide_eq_true (by omega))
def sp_is_place : Sp := fun vs H Q _ => ∃ i : Int, vs = [.int i] ∧ (0 ≤ i ∧ i < 1024) ∧ Q (.bl true) H
theorem ok_is_place (T : Txt K mg) : FnOk P w K mg base CX0 3 T.f_is_place T.fd_is_place ["value"] (sp_is_place) := by
  have G_is_between := ok_is_between (P := P) (w := w) (base := base) T
  refine T.F_is_place.ok sc_is_place (fun vs H Q E h => ?_) (fun cdv A outer s H vs Q E hr h => ?_)
  · obtain ⟨i, rfl, hi, k⟩ := h; rfl
  · obtain ⟨i, rfl, hi, k⟩ := h
    refine ⟨_, (pss_one (ps_ret (pe_call G_is_between (hr.mono (by decide)) rfl T.g_is_between T.F_is_between.kp T.b_is_between .nil pass0 (pa_cons (pv 0) (pa_cons pe_int (pa_cons (pe_op op_sub (pe_gint rfl T.c_PLACES) pe_int) pa_nil)))))), ?_⟩
    clear G_is_between
    clear hr
    walk_at "rd"
    exact qbl k (decide_eq_true (by omega))
def sp_need_word : Sp := fun vs H Q _ => ∃ i : Int, vs = [.int i] ∧ (0 ≤ i ∧ i < 65536) ∧ Q .non H
theorem ok_need_word (T : Txt K mg) : FnOk P w K mg base CX0 4 T.f_need_word T.fd_need_word ["value"] (sp_need_word) := by
  have G_is_word := ok_is_word (P := P) (w := w) (base := base) T
  refine T.F_need_word.ok sc_need_word (fun vs H Q E h => ?_) (fun cdv A outer s H vs Q E hr h => ?_)
  · obtain ⟨i, rfl, hi, k⟩ := h; rfl
  · obtain ⟨i, rfl, hi, k⟩ := h
    refine ⟨_, (pss_one (ps_if (pt_not (pt_val (pe_call G_is_word (hr.mono (by decide)) rfl T.g_is_word T.F_is_word.kp T.b_is_word .nil pass0 (pa_cons (pv 0) pa_nil))))
          (pss_one ps_never)
          pss_nil)), ?_⟩
    clear G_is_word
    clear hr
    walk_at "rd"
def sp_need_place : Sp := fun vs H Q _ => ∃ i : Int, vs = [.int i] ∧ (0 ≤ i ∧ i < 1024) ∧ Q .non H
theorem ok_need_place (T : Txt K mg) : FnOk P w K mg base CX0 4 T.f_need_place T.fd_need_place ["value"] (sp_need_place) := by
  have G_is_place := ok_is_place (P := P) (w := w) (base := base) T
  refine T.F_need_place.ok sc_need_place (fun vs H Q E h => ?_) (fun cdv A outer s H vs Q E hr h => ?_)
  · obtain ⟨i, rfl, hi, k⟩ := h; rfl
  · obtain ⟨i, rfl, hi, k⟩ := h
    refine ⟨_, (pss_one (ps_if (pt_not (pt_val (pe_call G_is_place (hr.mono (by decide)) rfl T.g_is_place T.F_is_place.kp T.b_is_place .nil pass0 (pa_cons (pv 0) pa_nil))))
          (pss_one ps_never)
          pss_nil)), ?_⟩
    clear G_is_place
    clear hr
    walk_at "rd"
theorem ik_len {kvs : List (Key × V)} {rs : List (Int × PyData)} (hk : kvs.map Prod.fst = (ik rs).map Prod.fst) : kvs.length = rs.length := by
  have := congrArg List.length hk
  simpa [ik] using this
theorem ik_keys {kvs : List (Key × V)} {rs : List (Int × PyData)} (hk : kvs.map Prod.fst = (ik rs).map Prod.fst) : kvs.map Prod.fst = (rs.map Prod.fst).map Sum.inl := by
  rw [hk, ik, List.map_map, List.map_map]; rfl
theorem ik_get {kvs : List (Key × V)} {rs : List (Int × PyData)} (hk : kvs.map Prod.fst = (ik rs).map Prod.fst) {i : Nat} {k : Key} {v : V} (h : kvs[i]? = some (k, v)) : ∃ r, rs[i]? = some r ∧ k = Sum.inl r.1 := by
  have e := congrArg (fun l => l[i]?) (ik_keys hk)
  simp only [List.getElem?_map, h, Option.map_some] at e
  cases e2 : rs[i]? with
  | none => rw [e2] at e; simp at e
  | some r => rw [e2] at e; simp at e; exact ⟨r, rfl, e⟩
theorem ik_drop (rs : List (Int × PyData)) (n : Int) : dropD (ik rs) (Sum.inl n) = ik (rs.filter fun r => decide (r.1 ≠ n)) := dropD_rows (fun r : Int × PyData => r.1) (fun r => r.2) rs n
theorem ik_val (rs : List (Int × PyData)) (n : Int) : valD (ik rs) (Sum.inl n) = (rs.find? fun r => decide (r.1 = n)).map Prod.snd := valD_rows (fun r : Int × PyData => r.1) (fun r => r.2) rs n
theorem ik_isSome {kvs : List (Key × V)} {rs : List (Int × PyData)} (hk : kvs.map Prod.fst = (ik rs).map Prod.fst) (n : Int) : (valV kvs (Sum.inl n)).isSome = decide (n ∈ rs.map Prod.fst) := by
  rw [valV_isSome _ hk, ik_val, Option.isSome_map]
  cases e : rs.find? fun r => decide (r.1 = n) with
  | none =>
    rw [List.find?_eq_none] at e
    refine (decide_eq_false fun h => ?_).symm
    obtain ⟨r, hr, er⟩ := List.mem_map.mp h
    exact e r hr (decide_eq_true er)
  | some r =>
    refine (decide_eq_true ?_).symm
    exact List.mem_map.mpr ⟨r, List.mem_of_find?_eq_some e, of_decide_eq_true (List.find?_some (p := fun r : Int × PyData => decide (r.1 = n)) e)⟩
def sp_isone (K : PySem.W.Frag) : Sp := fun vs H Q _ => ∃ (d : Addr) (rs : List (Int × PyData)) (n : Int) (R : List (Addr × Ob)) (P : List Pf), vs = [.ref d, .int n] ∧ Own K H ((d, .D (ik rs)) :: R) P ∧ 0 ≤ n ∧ Q (.bl (decide (n ∈ rs.map Prod.fst))) H
theorem ok__is_one_of (T : Txt K mg) : FnOk P w K mg base CX0 3 T.f__is_one_of T.fd__is_one_of ["queue", "value"] (sp_isone K) := by
  have G_is_count := ok_is_count (P := P) (w := w) (base := base) T
  refine T.F__is_one_of.ok sc__is_one_of (fun vs H Q E h => ?_) (fun cdv A outer s H vs Q E hr h => ?_)
  · obtain ⟨d, rs, n, R, P, rfl, hO, hn, k⟩ := h; rfl
  · obtain ⟨d, rs, n, R, P, rfl, hO, hn, k⟩ := h
    refine ⟨_, (pss_one (ps_ret (pe_and (pe_call G_is_count (hr.mono (by decide)) rfl T.g_is_count T.F_is_count.kp T.b_is_count .nil pass0 (pa_cons (pv 1) pa_nil)) (pe_one (pe_cmp (pc_din (hu_of hr) (pv 1) (pv 0))))))), ?_⟩
    clear G_is_count
    clear hr
    obtain ⟨kvs, hk, o1⟩ := hO.openD (a := d) (by walk_at "mem")
    replace hO := o1 _ .head
    clear o1
    obtain ⟨ov, hv⟩ : ∃ ov, valV kvs (Sum.inl n) = ov := ⟨_, rfl⟩
    have hs := ik_isSome hk n
    rw [hv] at hs
    walk_at "go"
    exact qbl k hs
def sp_needone (K : PySem.W.Frag) : Sp := fun vs H Q _ => ∃ (d : Addr) (rs : List (Int × PyData)) (n : Int) (R : List (Addr × Ob)) (P : List Pf), vs = [.ref d, .int n] ∧ Own K H ((d, .D (ik rs)) :: R) P ∧ 0 ≤ n ∧ n ∈ rs.map Prod.fst ∧ Q .non H
theorem ok__need_one_of (T : Txt K mg) : FnOk P w K mg base CX0 4 T.f__need_one_of T.fd__need_one_of ["queue", "value"] (sp_needone K) := by
  have G__is_one_of := ok__is_one_of (P := P) (w := w) (base := base) T
  refine T.F__need_one_of.ok sc__need_one_of (fun vs H Q E h => ?_) (fun cdv A outer s H vs Q E hr h => ?_)
  · obtain ⟨d, rs, n, R, P, rfl, hO, hn, hi, k⟩ := h; rfl
  · obtain ⟨d, rs, n, R, P, rfl, hO, hn, hi, k⟩ := h
    refine ⟨_, (pss_one (ps_if (pt_not (pt_val (pe_call G__is_one_of (hr.mono (by decide)) rfl T.g__is_one_of T.F__is_one_of.kp T.b__is_one_of .nil pass0 (pa_cons (pv 0) (pa_cons (pv 1) pa_nil)))))
          (pss_one ps_never)
          pss_nil)), ?_⟩
    clear G__is_one_of
    clear hr
    walk_at "go"
    rw [decide_eq_true hi]
    walk_at "go"
end
end K77

set_option Elab.async false
set_option linter.all false
set_option maxRecDepth 100000
set_option maxHeartbeats 8000000

namespace K77
open PySem PySem.Spec PyProof.Rows L2 Hx 
local macro_rules | `(tactic| walk_at "sm") => `(tactic| repeat' (first | assumption | apply Hx.Same.upd | exact L2.Same.refl _ | apply same_trans'))
local macro_rules | `(tactic| walk_at "hp") => `(tactic| repeat' (first | assumption | exact upd_same | apply old_upd | apply same_at))
local macro_rules | `(tactic| walk_at "rd") => `(tactic| repeat' (first | rfl | apply Exists.intro | apply And.intro | refine iteT ?_ | refine iteF ?_ | exact upd_same | exact SqL.of (by assumption) | exact SqL.of upd_same | exact SqT.of upd_same | exact SqT.of (by assumption) | ((with_reducible show (_ : Int) < _); omega) | ((with_reducible show (_ : Int) ≤ _); omega) | (show (_ : Prop); assumption) | exact Or.inl ⟨_, by assumption, rfl⟩ | exact Or.inl ⟨rfl, _, SqL.of (by assumption)⟩ | exact Or.inl ⟨rfl, _, SqL.of upd_same⟩ | apply old_upd | apply Hx.SqL.new | apply tyl_new | apply Pot.new | exact same_at (by assumption) (by assumption) | exact Or.inl (SqL.of (by assumption)) | exact Or.inl (by assumption) | exact Or.inl (SqL.of upd_same) | exact size_le (Nat.le_of_ble_eq_true rfl) | exact Nat.le_of_ble_eq_true rfl | exact True.intro | exact Or.inl rfl | exact Or.inr rfl | (show (_ : Prop); omega) | (show (_ : Prop); dsimp only; omega) | exact mulw64 (by omega) (by omega) | exact mulw64 (by (try dsimp only); omega) (by (try dsimp only); omega)))
set_option hygiene false in
local macro_rules | `(tactic| walk_at "fl") => `(tactic| simp only [pu_Queues_load_rooms, pi_Queues_load_rooms, pu_Queues_store_rooms, pi_Queues_store_rooms, pu_Queues_loads, pi_Queues_loads, pu_Queues_stores, pi_Queues_stores] at hO)
local macro_rules | `(tactic| walk_at "mem") => `(tactic| ((repeat (first | exact List.Mem.head _ | apply List.Mem.tail | fail)); done))
local macro_rules | `(tactic| walk_at "setat") => `(tactic| ((repeat (first | (with_reducible exact At.head) | (with_reducible apply At.tail) | (with_reducible apply At.app) | fail)); done))
set_option hygiene false in
local macro_rules | `(tactic| walk_at "dv") => `(tactic| ((repeat' (first | exact Dv.nil | exact Dv.of (by walk_at "mem") | exact Dv.ints _ | exact Dv1.of (by walk_at "mem") | exact Dv1.int _ | exact Dv1.non | exact Dv1.bl _ | exact Dv1.str _ | (with_reducible apply Dv.cons) | refine Dv1.tup (by walk_at "mem") ?_ | refine Dv1.lst (by walk_at "mem") ?_ | (with_reducible apply Dv.app) | fail)); done))
local macro_rules | `(tactic| walk_at "ft") => `(tactic| (first | (with_reducible exact Ft.refl) | ((with_reducible apply Ft.toL); focus walk_at "dv") | ((with_reducible apply Ft.toS); focus assumption) | (with_reducible apply Ft.lst) | (with_reducible apply Ft.Le) | (with_reducible apply Ft.dK) | (with_reducible apply Ft.De) | (with_reducible apply Ft.ins) | (with_reducible apply Ft.toL) | (with_reducible apply Ft.toS) | (with_reducible apply Ft.toD) | fail))
local macro_rules | `(tactic| walk_at "sbL") => `(tactic| repeat' (first | (with_reducible exact Sb.refl _) | exact Sb.nil | (with_reducible apply Sb.cons) | (with_reducible apply Sb.app) | (with_reducible exact Pk.one) | (with_reducible exact Pk.here) | (with_reducible exact Pk.all) | (with_reducible apply Pk.skip1) | (with_reducible apply Pk.skipB) | (with_reducible apply Sb.skip) | (with_reducible apply Sb.skipB) | ((with_reducible show Ft _ _ _ _); walk_at "ft") | ((with_reducible show (_ : List _) = _); (first | rfl | (simp [List.map_set, List.map_append]; done) | fail)) | fail))
local macro_rules | `(tactic| walk_at "sb") => `(tactic| ((walk_at "sbL"); done))
local macro_rules | `(tactic| walk_at "ps") => `(tactic| ((repeat' (first | (with_reducible exact Ps.refl) | exact Ps.nil | (with_reducible apply Ps.cons) | exact List.Mem.head _ | apply List.Mem.tail | (with_reducible apply Ps.skip) | fail)); done))
set_option hygiene false in
local macro_rules | `(tactic| walk_at "at") => `(tactic| first | assumption | exact Own.raw hO (by walk_at "mem") | exact Own.ptup hO (by walk_at "mem") | exact Own.plst hO (by walk_at "mem") | fail)
set_option hygiene false in
local macro_rules | `(tactic| walk_at "st") => `(tactic| (rw [upd_mkO hO]; generalize e : updX _ _ _ = H1; (first | ((apply Own.cset hO e); (focus walk_at "setat"); (try clear hO e); intro hO) | ((apply Own.cnewT hO e); (focus assumption); (try clear hO e); intro hO) | ((apply Own.cnew hO e); (focus assumption); (try clear hO e); intro hO) | fail)))
set_option hygiene false in
local macro_rules | `(tactic| walk_at "mk") => `(tactic| (intro p1 p2 f1 f2 f3; rw [upd_mkO hO]; generalize e : upd (updX _ _ _) _ _ = H1; apply Own.cmake hO f1 f2 f3 e; (try clear hO e); intro hO))
set_option hygiene false in
local macro_rules | `(tactic| walk_at "own") => `(tactic| (first | ((apply Own.sub hO); (focus walk_at "sb"); (focus walk_at "ps")) | ((apply Own.sub hF); (focus walk_at "sb"); (focus walk_at "ps")) | fail))
set_option hygiene false in
local macro_rules | `(tactic| walk_at "fin") => `(tactic| (refine Own.sub hO ?_ (by walk_at "ps"); walk_at "sbL"))
set_option hygiene false in
local macro_rules | `(tactic| walk_at "g1") => `(tactic| (first
 | ((with_reducible show (_ : Option HO) = _); walk_at "at")
 | ((with_reducible show (_ : Int) < _); omega) | ((with_reducible show (_ : Int) ≤ _); omega)
 | ((with_reducible show (_ : Nat) < _); (first | assumption | exact Nat.le_of_ble_eq_true rfl | exact size_lt (Nat.le_of_ble_eq_true rfl) | omega | (simp; done) | (simp; omega) | fail))
 | ((with_reducible show (_ : Nat) ≤ _); (first | assumption | exact Nat.le_of_ble_eq_true rfl | exact size_le (Nat.le_of_ble_eq_true rfl) | omega | (simp; done) | (simp; omega) | fail))
 | ((with_reducible show Own _ _ _ _); (first | walk_at "own" | (walk_at "st"; walk_at "own") | fail))
 | ((with_reducible show SqL _ _ _ _); (first | assumption | exact SqL.of (by walk_at "at") | fail))
 | ((with_reducible show SqT _ _ _ _); (first | assumption | exact hO.psq (by walk_at "mem") | exact SqT.of (by walk_at "at") | fail))
  | ((with_reducible show Cls _ _); exact Txt.cl_Queues T) | ((with_reducible show NoAttr _ _ _); exact Txt.n_Queues_load_rooms T) | (with_reducible exact gt_Queues_load_rooms) | ((with_reducible show NoAttr _ _ _); exact Txt.n_Queues_store_rooms T) | (with_reducible exact gt_Queues_store_rooms) | ((with_reducible show NoAttr _ _ _); exact Txt.n_Queues_loads T) | (with_reducible exact gt_Queues_loads) | ((with_reducible show NoAttr _ _ _); exact Txt.n_Queues_stores T) | (with_reducible exact gt_Queues_stores)  | ((with_reducible show V.ref _ = V.ref _); (first | rfl | fail))
 | ((with_reducible show DGet _ _ _ _); (first | exact DGet.ki (by walk_at "at") (by assumption) | exact DGet.kiF (by walk_at "at") (by assumption) | fail))
 | ((with_reducible show DPut _ _ _ _ _); exact DPut.ki (by walk_at "at") (by assumption))
 | ((with_reducible show Rd _ _ _); (first | exact Or.inl (by walk_at "at") | exact Or.inr ⟨_, by walk_at "at"⟩ | fail))
 | ((with_reducible show (∃ _ : List (Key × V), _) ∨ _); refine Or.inl ⟨_, by walk_at "at", ?_⟩)
 | ((with_reducible show Dv _ _ _ _); focus walk_at "dv") | ((with_reducible show Dv1 _ _ _ _); focus walk_at "dv")
 | ((with_reducible show IsD _ _); exact Or.inl ⟨_, Or.inl (by walk_at "at")⟩)
 | ((with_reducible show V.int _ = kV _); exact kV_int)
 | ((with_reducible show Option.isSome _ = true); (first | exact isSome_ofV (by assumption) | assumption | fail))
 | ((with_reducible show SqL _ _ _ _ ∨ SqT _ _ _ _); (first | exact Or.inl (by assumption) | exact Or.inr (by assumption) | exact Or.inl (SqL.of (by walk_at "at")) | exact Or.inr (SqT.of (by walk_at "at")) | fail))
 | ((with_reducible show Dp _ _ _ _); (first | assumption | exact hO.dpL (by walk_at "mem") | exact .lst (SqL.of (by walk_at "at")) (hO.all (by walk_at "dv")) | exact hO.one (by walk_at "dv") | fail))
 | ((with_reducible show TruV _ _ _ _); (first | exact Or.inl ⟨_, SqL.of (by walk_at "at"), rfl⟩ | exact Or.inr (Or.inr ⟨_, by walk_at "at", rfl⟩) | exact Or.inr (Or.inl ⟨_, SqT.of (by walk_at "at"), rfl⟩) | fail))
 | ((with_reducible show RgOk _ _); exact RgOk.of_le (by omega) (by omega) (by omega) (by omega))
 | rfl | (with_reducible assumption) | apply And.intro | apply Exists.intro | refine iteT ?_ | refine iteF ?_
 | (walk_at "st"; (try walk_at "fl"))
 | ((with_reducible show ∀ _ : Addr, _ = none → _); (fail_if_success (with_reducible show ∀ _ : Addr, _ = none → ∃ _ : Nat → Nat → Hp → Prop, _)); intro p fp; walk_at "st")
 | (refine Or.inl ⟨SqL.of (by walk_at "at"), ?_⟩) | (refine Or.inr ⟨SqT.of (by walk_at "at"), ?_⟩) | exact Or.inl ⟨_, by walk_at "at", rfl⟩ | exact Or.inl ⟨rfl, _, SqL.of (by walk_at "at")⟩ | exact tyl_of (by walk_at "at") | exact Or.inl (SqL.of (by walk_at "at")) | exact Or.inr (SqT.of (by walk_at "at")) | exact Or.inl (by walk_at "at") | exact size_le (Nat.le_of_ble_eq_true rfl) | exact Nat.le_of_ble_eq_true rfl | exact True.intro | exact Or.inl rfl | exact Or.inr rfl | (show (_ : Prop); assumption) | (show (_ : Prop); omega) | (show (_ : Prop); dsimp only; omega) | exact mulw64 (by omega) (by omega) | exact mulw64 (by (try dsimp only); omega) (by (try dsimp only); omega) | fail))
local macro_rules | `(tactic| walk_at "go") => `(tactic| repeat walk_at "g1")

section
variable {P : Program} {w : World} {K : PySem.W.Frag} {mg : Str → Option Value} {base : Heap}
def sp_init (K : PySem.W.Frag) (C : Addr) : Sp := fun vs H Q _ => ∃ (x dx : Addr) (a b : Int) (R : List (Addr × Ob)) (P : List Pf), vs = [.ref x, .int a, .int b] ∧ Own K H ((x, .raw (.ins C dx [])) :: R) P ∧ (1 ≤ a ∧ a ≤ 8) ∧ (1 ≤ b ∧ b ≤ 8) ∧
  ∀ (l s : Addr) (H' : Hp), Own K H' (qu C x dx l s a b [] [] ++ R) P → Q .non H'
theorem ok_Queues_init (T : Txt K mg) : FnOk P w K mg base CX0 4 T.f_Queues_init T.fd_Queues_init ["self", "loads", "stores"] (sp_init K T.C_Queues) := by
  have G_need_many := ok_need_many (P := P) (w := w) (base := base) T
  refine T.F_Queues_init.ok sc_Queues_init (fun vs H Q E h => ?_) (fun cdv A outer s H vs Q E hr h => ?_)
  · obtain ⟨x, dx, a, b, R, P, rfl, hO, ⟨ha1, ha2⟩, ⟨hb1, hb2⟩, k⟩ := h; rfl
  · obtain ⟨x, dx, a, b, R, P, rfl, hO, ⟨ha1, ha2⟩, ⟨hb1, hb2⟩, k⟩ := h
    refine ⟨_, (pss_cons (ps_expr (pe_call G_need_many (hr.mono (by decide)) rfl T.g_need_many T.F_need_many.kp T.b_need_many .nil pass0 (pa_cons (pv 1) (pa_cons pe_int (pa_cons (pe_gint rfl T.c__MOST_ROOMS) pa_nil)))))
        (pss_cons (ps_expr (pe_call G_need_many (hr.mono (by decide)) rfl T.g_need_many T.F_need_many.kp T.b_need_many .nil pass0 (pa_cons (pv 2) (pa_cons pe_int (pa_cons (pe_gint rfl T.c__MOST_ROOMS) pa_nil)))))
        (pss_cons (ps_fld (pv 0) (pv 1) rfl)
        (pss_cons (ps_fld (pv 0) (pv 2) rfl)
        (pss_cons (ps_fld (pv 0) pe_dnewK rfl)
        (pss_one (ps_fld (pv 0) pe_dnewK rfl))))))), ?_⟩
    clear G_need_many
    clear hr
    simp only [qu, List.cons_append, List.nil_append] at k
    walk_at "go"
    refine fun l fl => ?_
    walk_at "st"
    walk_at "go"
    refine fun s fs => ?_
    walk_at "st"
    walk_at "go"
    apply k
    walk_at "fin"
    all_goals exact Dv.nil
theorem qD_len (rs : List QR) : (qD rs).length = rs.length := by rw [qD, List.length_map]
def sp_canl (K : PySem.W.Frag) (C : Addr) : Sp := fun vs H Q _ => ∃ (x dx l s : Addr) (a b : Int) (ls ss : List QR) (R : List (Addr × Ob)) (P : List Pf), vs = [.ref x] ∧ Own K H (qu C x dx l s a b ls ss ++ R) P ∧ Q (.bl (decide ((ls.length : Int) < a))) H
theorem ok_Queues_can_load (T : Txt K mg) : FnOk P w K mg base CX0 1 T.f_Queues_can_load T.fd_Queues_can_load ["self"] (sp_canl K T.C_Queues) := by
  refine T.F_Queues_can_load.ok sc_Queues_can_load (fun vs H Q E h => ?_) (fun cdv A outer s H vs Q E hr h => ?_)
  · obtain ⟨x, dx, l, s, a, b, ls, ss, R, P, rfl, hO, k⟩ := h; rfl
  · obtain ⟨x, dx, l, s, a, b, ls, ss, R, P, rfl, hO, k⟩ := h
    refine ⟨_, (pss_one (ps_ret (pe_cmpR op_lt (pe_callB call_lenD (by rfl) T.m_len (by decide +kernel) (pa_cons (pe_fld (pv 0) rfl) pa_nil)) (pe_fld (pv 0) rfl) (nomark _)))), ?_⟩
    clear hr
    simp only [qu, List.cons_append, List.nil_append] at hO
    obtain ⟨kvs, hk, o1⟩ := hO.openD (a := l) (by walk_at "mem")
    replace hO := o1 _ (by walk_at "setat")
    have hl := ik_len hk
    rw [qD_len] at hl
    walk_at "go"
    exact qbl k (by rw [hl])
def sp_cans (K : PySem.W.Frag) (C : Addr) : Sp := fun vs H Q _ => ∃ (x dx l s : Addr) (a b : Int) (ls ss : List QR) (R : List (Addr × Ob)) (P : List Pf), vs = [.ref x] ∧ Own K H (qu C x dx l s a b ls ss ++ R) P ∧ Q (.bl (decide ((ss.length : Int) < b))) H
theorem ok_Queues_can_store (T : Txt K mg) : FnOk P w K mg base CX0 1 T.f_Queues_can_store T.fd_Queues_can_store ["self"] (sp_cans K T.C_Queues) := by
  refine T.F_Queues_can_store.ok sc_Queues_can_store (fun vs H Q E h => ?_) (fun cdv A outer s H vs Q E hr h => ?_)
  · obtain ⟨x, dx, l, s, a, b, ls, ss, R, P, rfl, hO, k⟩ := h; rfl
  · obtain ⟨x, dx, l, s, a, b, ls, ss, R, P, rfl, hO, k⟩ := h
    refine ⟨_, (pss_one (ps_ret (pe_cmpR op_lt (pe_callB call_lenD (by rfl) T.m_len (by decide +kernel) (pa_cons (pe_fld (pv 0) rfl) pa_nil)) (pe_fld (pv 0) rfl) (nomark _)))), ?_⟩
    clear hr
    simp only [qu, List.cons_append, List.nil_append] at hO
    obtain ⟨kvs, hk, o1⟩ := hO.openD (a := s) (by walk_at "mem")
    replace hO := o1 _ (by walk_at "setat")
    have hl := ik_len hk
    rw [qD_len] at hl
    walk_at "go"
    exact qbl k (by rw [hl])
def qkeys (rs : List QR) : List Int := rs.map fun r => r.1
theorem qD_keys (rs : List QR) : (qD rs).map Prod.fst = qkeys rs := by rw [qD, List.map_map]; rfl
theorem kvs_ints {kvs : List (Key × V)} {rs : List QR} (hk : kvs.map Prod.fst = (ik (qD rs)).map Prod.fst) : kvs.map (fun kv => kV kv.1) = (qkeys rs).map V.int := by
  have ek := ik_keys hk
  rw [qD_keys] at ek
  have := congrArg (List.map kV) ek
  rw [List.map_map, List.map_map] at this
  exact this
def sp_alln (K : PySem.W.Frag) (C : Addr) : Sp := fun vs H Q _ => ∃ (x dx l s : Addr) (a b : Int) (ls ss : List QR) (R : List (Addr × Ob)) (P : List Pf), vs = [.ref x] ∧ Own K H (qu C x dx l s a b ls ss ++ R) P ∧ ls.length ≤ 100 ∧ ss.length ≤ 100 ∧
  ∀ (p : Addr) (H' : Hp) (P' : List Pf), Ps P P' → Own K H' ((p, .raw (.lst ((qkeys ls ++ qkeys ss).map V.int))) :: (qu C x dx l s a b ls ss ++ R)) P' → Q (.ref p) H'
theorem ok_Queuesall_numbers (T : Txt K mg) : FnOk P w K mg base CX0 1 T.f_Queuesall_numbers T.fd_Queuesall_numbers ["self"] (sp_alln K T.C_Queues) := by
  refine T.F_Queuesall_numbers.ok sc_Queuesall_numbers (fun vs H Q E h => ?_) (fun cdv A outer s H vs Q E hr h => ?_)
  · obtain ⟨x, dx, l, s, a, b, ls, ss, R, P, rfl, hO, hl1, hs1, k⟩ := h; rfl
  · obtain ⟨x, dx, l, s, a, b, ls, ss, R, P, rfl, hO, hl1, hs1, k⟩ := h
    refine ⟨_, (pss_one (ps_ret (pe_op op_cat (pe_callTy (call_list_dK rfl) (by rfl) T.m_list (by decide +kernel) (pa_cons (pe_fld (pv 0) rfl) pa_nil)) (pe_callTy (call_list_dK rfl) (by rfl) T.m_list (by decide +kernel) (pa_cons (pe_fld (pv 0) rfl) pa_nil))))), ?_⟩
    clear hr
    simp only [qu, List.cons_append, List.nil_append] at hO k
    obtain ⟨kl, hk, o1⟩ := hO.openD (a := l) (by walk_at "mem")
    replace hO := o1 _ (by walk_at "setat")
    obtain ⟨ks, hk2, o2⟩ := hO.openD (a := s) (by walk_at "mem")
    replace hO := o2 _ (by walk_at "setat")
    clear o1 o2
    have e1 := kvs_ints hk
    have e2 := kvs_ints hk2
    have hsz : (kl.map fun kv => kV kv.1).length + (ks.map fun kv => kV kv.1).length ≤ sizeLine := by
      rw [e1, e2]
      exact size_le (by simp [qkeys]; omega)
    walk_at "go"
    rw [e1, e2, ← List.map_append] at hO
    refine k p _ (.dp (ks.map Prod.snd) ((ik (qD ss)).map Prod.snd) :: .dp (kl.map Prod.snd) ((ik (qD ls)).map Prod.snd) :: P) (Ps.skip (Ps.skip Ps.refl)) ?_
    walk_at "fin"
    all_goals first | exact hk | exact hk2 | exact Dv.of (by walk_at "mem")
def sp_above (K : PySem.W.Frag) (C : Addr) : Sp := fun vs H Q _ => ∃ (x dx l s : Addr) (a b n : Int) (ls ss : List QR) (R : List (Addr × Ob)) (P : List Pf), vs = [.ref x, .int n] ∧ Own K H (qu C x dx l s a b ls ss ++ R) P ∧ ls.length ≤ 100 ∧ ss.length ≤ 100 ∧ 0 ≤ n ∧ (∀ z ∈ qkeys ls ++ qkeys ss, z < n) ∧
  ∀ (H' : Hp) (P' : List Pf), Ps P P' → Own K H' (qu C x dx l s a b ls ss ++ R) P' → Q .non H'
theorem ok_Queuesneed_above_all (T : Txt K mg) : FnOk P w K mg base CX0 3 T.f_Queuesneed_above_all T.fd_Queuesneed_above_all ["self", "value"] (sp_above K T.C_Queues) := by
  have G_Queuesall_numbers := ok_Queuesall_numbers (P := P) (w := w) (base := base) T
  have G_is_count := ok_is_count (P := P) (w := w) (base := base) T
  refine T.F_Queuesneed_above_all.ok sc_Queuesneed_above_all (fun vs H Q E h => ?_) (fun cdv A outer s H vs Q E hr h => ?_)
  · obtain ⟨x, dx, l, s, a, b, n, ls, ss, R, P, rfl, hO, hl1, hs1, hn, hz, k⟩ := h; rfl
  · obtain ⟨x, dx, l, s, a, b, n, ls, ss, R, P, rfl, hO, hl1, hs1, hn, hz, k⟩ := h
    refine ⟨_, (pss_one (ps_if (PW.pt (pw_or (pt_not (pt_val (pe_call G_is_count (hr.mono (by decide)) rfl T.g_is_count T.F_is_count.kp T.b_is_count .nil pass0 (pa_cons (pv 1) pa_nil)))) (pw_or1 (pt_val (pe_callB (cr_any rfl) (by rfl) T.m_any (by decide +kernel) (pa_cons (pe_lc (own := [("number", 2)]) (g := gName 2) (tt := tYes) rfl sc_Queuesneed_above_all.nd (pi_list (pe_meth0 (pv 0) T.cl_Queues T.me_Queuesall_numbers G_Queuesall_numbers (hr.mono (by decide)) T.b_Queuesall_numbers .nil pass0)) (blkOk_by (N := ["self", "value", "number"]) (sc := defScope s_Queuesneed_above_all) (by decide +kernel)) (fun _ _ _ _ _ => pg_name (i := 2) sc_Queuesneed_above_all.nd rfl (Or.inl rfl)) (fun _ _ _ _ _ => pts_nil) (fun _ _ _ _ _ => (pe_cmpR op_ge (pv 2) (pv 1) (nomark _)))) pa_nil))))))
          (pss_one ps_never)
          pss_nil)), ?_⟩
    clear G_Queuesall_numbers G_is_count
    clear hr
    walk_at "go"
    intro p H2 P2 sp2 hO
    have hlen : (qkeys ls ++ qkeys ss).length ≤ 200 := by simp [qkeys]; omega
    generalize qkeys ls ++ qkeys ss = zs at hO hz hlen
    walk_at "go"
    intro D hD
    refine lc_rawW (walk_list (xs := zs.map V.int)) ((zs.map fun _ => false).map V.bl) hO hD (by simp) (by simp; omega) (fun H' L' P' m s o => SqL.of (o.raw (m _ List.mem_cons_self))) (fun i x y H H' P' Q hi hY hy sp hO kq => ?_) (fun H3 P3 sp3 hO => ?_)
    · obtain ⟨rfl, hx⟩ := hY
      obtain ⟨z, rfl, hz2⟩ := int_get hx
      rw [List.getElem?_map, List.getElem?_map, hz2] at hy
      obtain rfl : V.bl false = y := Option.some.inj hy
      have := hz z (List.mem_of_getElem? hz2)
      walk_at "go"
      exact qbl (kq _ _ Ps.refl hO) (decide_eq_false (by omega))
    · walk_at "go"
      have e : (zs.map fun _ => false).any id = false := by simp
      rw [e]
      walk_at "go"
      refine k _ _ (sp2.trans sp3) ?_
      walk_at "fin"
end
end K77

set_option Elab.async false
set_option linter.all false
set_option maxRecDepth 100000
set_option maxHeartbeats 8000000

namespace K77
open PySem PySem.Spec PyProof.Rows L2 Hx 
local macro_rules | `(tactic| walk_at "sm") => `(tactic| repeat' (first | assumption | apply Hx.Same.upd | exact L2.Same.refl _ | apply same_trans'))
local macro_rules | `(tactic| walk_at "hp") => `(tactic| repeat' (first | assumption | exact upd_same | apply old_upd | apply same_at))
local macro_rules | `(tactic| walk_at "rd") => `(tactic| repeat' (first | rfl | apply Exists.intro | apply And.intro | refine iteT ?_ | refine iteF ?_ | exact upd_same | exact SqL.of (by assumption) | exact SqL.of upd_same | exact SqT.of upd_same | exact SqT.of (by assumption) | ((with_reducible show (_ : Int) < _); omega) | ((with_reducible show (_ : Int) ≤ _); omega) | (show (_ : Prop); assumption) | exact Or.inl ⟨_, by assumption, rfl⟩ | exact Or.inl ⟨rfl, _, SqL.of (by assumption)⟩ | exact Or.inl ⟨rfl, _, SqL.of upd_same⟩ | apply old_upd | apply Hx.SqL.new | apply tyl_new | apply Pot.new | exact same_at (by assumption) (by assumption) | exact Or.inl (SqL.of (by assumption)) | exact Or.inl (by assumption) | exact Or.inl (SqL.of upd_same) | exact size_le (Nat.le_of_ble_eq_true rfl) | exact Nat.le_of_ble_eq_true rfl | exact True.intro | exact Or.inl rfl | exact Or.inr rfl | (show (_ : Prop); omega) | (show (_ : Prop); dsimp only; omega) | exact mulw64 (by omega) (by omega) | exact mulw64 (by (try dsimp only); omega) (by (try dsimp only); omega)))
set_option hygiene false in
local macro_rules | `(tactic| walk_at "fl") => `(tactic| simp only [pu_Queues_load_rooms, pi_Queues_load_rooms, pu_Queues_store_rooms, pi_Queues_store_rooms, pu_Queues_loads, pi_Queues_loads, pu_Queues_stores, pi_Queues_stores] at hO)
local macro_rules | `(tactic| walk_at "mem") => `(tactic| ((repeat (first | exact List.Mem.head _ | apply List.Mem.tail | fail)); done))
local macro_rules | `(tactic| walk_at "setat") => `(tactic| ((repeat (first | (with_reducible exact At.head) | (with_reducible apply At.tail) | (with_reducible apply At.app) | fail)); done))
set_option hygiene false in
local macro_rules | `(tactic| walk_at "dv") => `(tactic| ((repeat' (first | exact Dv.nil | exact Dv.of (by walk_at "mem") | exact Dv.ints _ | exact Dv1.of (by walk_at "mem") | exact Dv1.int _ | exact Dv1.non | exact Dv1.bl _ | exact Dv1.str _ | (with_reducible apply Dv.cons) | refine Dv1.tup (by walk_at "mem") ?_ | refine Dv1.lst (by walk_at "mem") ?_ | (with_reducible apply Dv.app) | fail)); done))
local macro_rules | `(tactic| walk_at "ft") => `(tactic| (first | (with_reducible exact Ft.refl) | ((with_reducible apply Ft.toL); focus walk_at "dv") | ((with_reducible apply Ft.toS); focus assumption) | (with_reducible apply Ft.lst) | (with_reducible apply Ft.Le) | (with_reducible apply Ft.dK) | (with_reducible apply Ft.De) | (with_reducible apply Ft.ins) | (with_reducible apply Ft.toL) | (with_reducible apply Ft.toS) | (with_reducible apply Ft.toD) | fail))
local macro_rules | `(tactic| walk_at "sbL") => `(tactic| repeat' (first | (with_reducible exact Sb.refl _) | exact Sb.nil | (with_reducible apply Sb.cons) | (with_reducible apply Sb.app) | (with_reducible exact Pk.one) | (with_reducible exact Pk.here) | (with_reducible exact Pk.all) | (with_reducible apply Pk.skip1) | (with_reducible apply Pk.skipB) | (with_reducible apply Sb.skip) | (with_reducible apply Sb.skipB) | ((with_reducible show Ft _ _ _ _); walk_at "ft") | ((with_reducible show (_ : List _) = _); (first | rfl | (simp [List.map_set, List.map_append]; done) | fail)) | fail))
local macro_rules | `(tactic| walk_at "sb") => `(tactic| ((walk_at "sbL"); done))
local macro_rules | `(tactic| walk_at "ps") => `(tactic| ((repeat' (first | (with_reducible exact Ps.refl) | exact Ps.nil | (with_reducible apply Ps.cons) | exact List.Mem.head _ | apply List.Mem.tail | (with_reducible apply Ps.skip) | fail)); done))
set_option hygiene false in
local macro_rules | `(tactic| walk_at "at") => `(tactic| first | assumption | exact Own.raw hO (by walk_at "mem") | exact Own.ptup hO (by walk_at "mem") | exact Own.plst hO (by walk_at "mem") | fail)
set_option hygiene false in
local macro_rules | `(tactic| walk_at "st") => `(tactic| (rw [upd_mkO hO]; generalize e : updX _ _ _ = H1; (first | ((apply Own.cset hO e); (focus walk_at "setat"); (try clear hO e); intro hO) | ((apply Own.cnewT hO e); (focus assumption); (try clear hO e); intro hO) | ((apply Own.cnew hO e); (focus assumption); (try clear hO e); intro hO) | fail)))
set_option hygiene false in
local macro_rules | `(tactic| walk_at "mk") => `(tactic| (intro p1 p2 f1 f2 f3; rw [upd_mkO hO]; generalize e : upd (updX _ _ _) _ _ = H1; apply Own.cmake hO f1 f2 f3 e; (try clear hO e); intro hO))
set_option hygiene false in
local macro_rules | `(tactic| walk_at "own") => `(tactic| (first | ((apply Own.sub hO); (focus walk_at "sb"); (focus walk_at "ps")) | ((apply Own.sub hF); (focus walk_at "sb"); (focus walk_at "ps")) | fail))
set_option hygiene false in
local macro_rules | `(tactic| walk_at "fin") => `(tactic| (refine Own.sub hO ?_ (by walk_at "ps"); walk_at "sbL"))
set_option hygiene false in
local macro_rules | `(tactic| walk_at "g1") => `(tactic| (first
 | ((with_reducible show (_ : Option HO) = _); walk_at "at")
 | ((with_reducible show (_ : Int) < _); omega) | ((with_reducible show (_ : Int) ≤ _); omega)
 | ((with_reducible show (_ : Nat) < _); (first | assumption | exact Nat.le_of_ble_eq_true rfl | exact size_lt (Nat.le_of_ble_eq_true rfl) | omega | (simp; done) | (simp; omega) | fail))
 | ((with_reducible show (_ : Nat) ≤ _); (first | assumption | exact Nat.le_of_ble_eq_true rfl | exact size_le (Nat.le_of_ble_eq_true rfl) | omega | (simp; done) | (simp; omega) | fail))
 | ((with_reducible show Own _ _ _ _); (first | walk_at "own" | (walk_at "st"; walk_at "own") | fail))
 | ((with_reducible show SqL _ _ _ _); (first | assumption | exact SqL.of (by walk_at "at") | fail))
 | ((with_reducible show SqT _ _ _ _); (first | assumption | exact hO.psq (by walk_at "mem") | exact SqT.of (by walk_at "at") | fail))
  | ((with_reducible show Cls _ _); exact Txt.cl_Queues T) | ((with_reducible show NoAttr _ _ _); exact Txt.n_Queues_load_rooms T) | (with_reducible exact gt_Queues_load_rooms) | ((with_reducible show NoAttr _ _ _); exact Txt.n_Queues_store_rooms T) | (with_reducible exact gt_Queues_store_rooms) | ((with_reducible show NoAttr _ _ _); exact Txt.n_Queues_loads T) | (with_reducible exact gt_Queues_loads) | ((with_reducible show NoAttr _ _ _); exact Txt.n_Queues_stores T) | (with_reducible exact gt_Queues_stores)  | ((with_reducible show V.ref _ = V.ref _); (first | rfl | fail))
 | ((with_reducible show DGet _ _ _ _); (first | exact DGet.ki (by walk_at "at") (by assumption) | exact DGet.kiF (by walk_at "at") (by assumption) | fail))
 | ((with_reducible show DPut _ _ _ _ _); exact DPut.ki (by walk_at "at") (by assumption))
 | ((with_reducible show Rd _ _ _); (first | exact Or.inl (by walk_at "at") | exact Or.inr ⟨_, by walk_at "at"⟩ | fail))
 | ((with_reducible show (∃ _ : List (Key × V), _) ∨ _); refine Or.inl ⟨_, by walk_at "at", ?_⟩)
 | ((with_reducible show Dv _ _ _ _); focus walk_at "dv") | ((with_reducible show Dv1 _ _ _ _); focus walk_at "dv")
 | ((with_reducible show IsD _ _); exact Or.inl ⟨_, Or.inl (by walk_at "at")⟩)
 | ((with_reducible show V.int _ = kV _); exact kV_int)
 | ((with_reducible show Option.isSome _ = true); (first | exact isSome_ofV (by assumption) | assumption | fail))
 | ((with_reducible show SqL _ _ _ _ ∨ SqT _ _ _ _); (first | exact Or.inl (by assumption) | exact Or.inr (by assumption) | exact Or.inl (SqL.of (by walk_at "at")) | exact Or.inr (SqT.of (by walk_at "at")) | fail))
 | ((with_reducible show Dp _ _ _ _); (first | assumption | exact hO.dpL (by walk_at "mem") | exact .lst (SqL.of (by walk_at "at")) (hO.all (by walk_at "dv")) | exact hO.one (by walk_at "dv") | fail))
 | ((with_reducible show TruV _ _ _ _); (first | exact Or.inl ⟨_, SqL.of (by walk_at "at"), rfl⟩ | exact Or.inr (Or.inr ⟨_, by walk_at "at", rfl⟩) | exact Or.inr (Or.inl ⟨_, SqT.of (by walk_at "at"), rfl⟩) | fail))
 | ((with_reducible show RgOk _ _); exact RgOk.of_le (by omega) (by omega) (by omega) (by omega))
 | rfl | (with_reducible assumption) | apply And.intro | apply Exists.intro | refine iteT ?_ | refine iteF ?_
 | (walk_at "st"; (try walk_at "fl"))
 | ((with_reducible show ∀ _ : Addr, _ = none → _); (fail_if_success (with_reducible show ∀ _ : Addr, _ = none → ∃ _ : Nat → Nat → Hp → Prop, _)); intro p fp; walk_at "st")
 | (refine Or.inl ⟨SqL.of (by walk_at "at"), ?_⟩) | (refine Or.inr ⟨SqT.of (by walk_at "at"), ?_⟩) | exact Or.inl ⟨_, by walk_at "at", rfl⟩ | exact Or.inl ⟨rfl, _, SqL.of (by walk_at "at")⟩ | exact tyl_of (by walk_at "at") | exact Or.inl (SqL.of (by walk_at "at")) | exact Or.inr (SqT.of (by walk_at "at")) | exact Or.inl (by walk_at "at") | exact size_le (Nat.le_of_ble_eq_true rfl) | exact Nat.le_of_ble_eq_true rfl | exact True.intro | exact Or.inl rfl | exact Or.inr rfl | (show (_ : Prop); assumption) | (show (_ : Prop); omega) | (show (_ : Prop); dsimp only; omega) | exact mulw64 (by omega) (by omega) | exact mulw64 (by (try dsimp only); omega) (by (try dsimp only); omega) | fail))
local macro_rules | `(tactic| walk_at "go") => `(tactic| repeat walk_at "g1")

section
variable {P : Program} {w : World} {K : PySem.W.Frag} {mg : Str → Option Value} {base : Heap}
theorem dvN {K : PySem.W.Frag} {mg : Str → Option Value} (T : Txt K mg) (P : List Pf) : Dv1 K P (.ref T.aN) (.tuple [.none, .none]) := by
  obtain ⟨n, h⟩ := T.lN
  exact fun M _ => .tup (.inr ⟨_, #[.none, .none], n, h, rfl, rfl, by decide, (show Vals [V.non, V.non] [Value.none, Value.none] from .cons (show RelV V.non Value.none from rfl) (.cons (show RelV V.non Value.none from rfl) .nil))⟩) (.cons .non (.cons .non .nil))
theorem find_none {rs : List QR} {n : Int} (h : n ∉ qkeys rs) : valD (ik (qD rs)) (Sum.inl n) = none := by
  rw [ik_val, Option.map_eq_none_iff, List.find?_eq_none]
  intro r hr e
  have e' : r.1 = n := of_decide_eq_true e
  obtain ⟨u, hu, rfl⟩ := List.mem_map.mp hr
  exact h (List.mem_map.mpr ⟨u, hu, e'⟩)
theorem qD_put_new {rs : List QR} {n : Int} (h : n ∉ qkeys rs) (a b : Option Int) : putD (ik (qD rs)) (Sum.inl n) (.tuple [oD a, oD b]) = ik (qD (rs ++ [(n, a, b)])) := by
  rw [putD_new (find_none h)]; simp [ik, qD]
theorem not_above {zs : List Int} {n : Int} (h : ∀ z ∈ zs, z < n) : n ∉ zs := fun m => by have := h n m; omega
def sp_loade (K : PySem.W.Frag) (C : Addr) : Sp := fun vs H Q _ => ∃ (x dx l s : Addr) (a b n : Int) (ls ss : List QR) (R : List (Addr × Ob)) (P : List Pf), vs = [.ref x, .int n] ∧ Own K H (qu C x dx l s a b ls ss ++ R) P ∧ ls.length ≤ 100 ∧ ss.length ≤ 100 ∧ 0 ≤ n ∧ (∀ z ∈ qkeys ls ++ qkeys ss, z < n) ∧ (ls.length : Int) < a ∧
  ∀ (H' : Hp) (P' : List Pf), Ps P P' → Own K H' (qu C x dx l s a b (ls ++ [(n, none, none)]) ss ++ R) P' → Q .non H'
theorem ok_Queues_load_entered (T : Txt K mg) : FnOk P w K mg base CX0 4 T.f_Queues_load_entered T.fd_Queues_load_entered ["self", "number"] (sp_loade K T.C_Queues) := by
  have G_Queuesneed_above_all := ok_Queuesneed_above_all (P := P) (w := w) (base := base) T
  have G_Queues_can_load := ok_Queues_can_load (P := P) (w := w) (base := base) T
  refine T.F_Queues_load_entered.ok sc_Queues_load_entered (fun vs H Q E h => ?_) (fun cdv A outer s H vs Q E hr h => ?_)
  · obtain ⟨x, dx, l, s, a, b, n, ls, ss, R, P, rfl, hO, hl1, hs1, hn, hz, hrm, k⟩ := h; rfl
  · obtain ⟨x, dx, l, s, a, b, n, ls, ss, R, P, rfl, hO, hl1, hs1, hn, hz, hrm, k⟩ := h
    refine ⟨_, (pss_cons (ps_expr (pe_meth (pv 0) T.cl_Queues T.me_Queuesneed_above_all G_Queuesneed_above_all (hr.mono (by decide)) T.b_Queuesneed_above_all .nil pass0 (pa_cons (pv 1) pa_nil)))
        (pss_cons (ps_if (pt_not (pt_val (pe_prop (pv 0) T.cl_Queues T.p_Queues_can_load G_Queues_can_load (hr.mono (by decide)) T.b_Queues_can_load .nil pass0 rfl)))
          (pss_one ps_never)
          pss_nil)
        (pss_one (ps_dput (hu_of hr) (pe_fld (pv 0) rfl) (pv 1) (pe_glob (v := .ref T.aN) rfl T.gN rfl) rfl)))), ?_⟩
    clear G_Queuesneed_above_all G_Queues_can_load
    clear hr
    walk_at "go"
    intro H2 P2 sp2 hO
    walk_at "go"
    rw [decide_eq_true hrm]
    simp only [qu, List.cons_append, List.nil_append] at hO k
    obtain ⟨kl, hk, o1⟩ := hO.openD (a := l) (by walk_at "mem")
    replace hO := o1 _ (by walk_at "setat")
    clear o1
    have hl := ik_len hk
    rw [qD_len] at hl
    have hni : n ∉ qkeys ls := fun m => not_above hz (List.mem_append_left _ m)
    have hv := valV_ofN hk (find_none hni)
    have szk : kl.length < sizeLine := size_lt (by omega)
    walk_at "go"
    refine k _ (.dp (kl.map Prod.snd) ((ik (qD ls)).map Prod.snd) :: P2) (sp2.trans (Ps.skip Ps.refl)) ?_
    rw [← qD_put_new hni]
    walk_at "fin"
    all_goals first | exact putK_fst hk _ _ _ | exact Dv.put (Dv.of (by walk_at "mem")) hk (dvN T _)
def sp_storee (K : PySem.W.Frag) (C : Addr) : Sp := fun vs H Q _ => ∃ (x dx l s : Addr) (a b n : Int) (ls ss : List QR) (R : List (Addr × Ob)) (P : List Pf), vs = [.ref x, .int n] ∧ Own K H (qu C x dx l s a b ls ss ++ R) P ∧ ls.length ≤ 100 ∧ ss.length ≤ 100 ∧ 0 ≤ n ∧ (∀ z ∈ qkeys ls ++ qkeys ss, z < n) ∧ (ss.length : Int) < b ∧
  ∀ (H' : Hp) (P' : List Pf), Ps P P' → Own K H' (qu C x dx l s a b ls (ss ++ [(n, none, none)]) ++ R) P' → Q .non H'
theorem ok_Queues_store_entered (T : Txt K mg) : FnOk P w K mg base CX0 4 T.f_Queues_store_entered T.fd_Queues_store_entered ["self", "number"] (sp_storee K T.C_Queues) := by
  have G_Queuesneed_above_all := ok_Queuesneed_above_all (P := P) (w := w) (base := base) T
  have G_Queues_can_store := ok_Queues_can_store (P := P) (w := w) (base := base) T
  refine T.F_Queues_store_entered.ok sc_Queues_store_entered (fun vs H Q E h => ?_) (fun cdv A outer s H vs Q E hr h => ?_)
  · obtain ⟨x, dx, l, s, a, b, n, ls, ss, R, P, rfl, hO, hl1, hs1, hn, hz, hrm, k⟩ := h; rfl
  · obtain ⟨x, dx, l, s, a, b, n, ls, ss, R, P, rfl, hO, hl1, hs1, hn, hz, hrm, k⟩ := h
    refine ⟨_, (pss_cons (ps_expr (pe_meth (pv 0) T.cl_Queues T.me_Queuesneed_above_all G_Queuesneed_above_all (hr.mono (by decide)) T.b_Queuesneed_above_all .nil pass0 (pa_cons (pv 1) pa_nil)))
        (pss_cons (ps_if (pt_not (pt_val (pe_prop (pv 0) T.cl_Queues T.p_Queues_can_store G_Queues_can_store (hr.mono (by decide)) T.b_Queues_can_store .nil pass0 rfl)))
          (pss_one ps_never)
          pss_nil)
        (pss_one (ps_dput (hu_of hr) (pe_fld (pv 0) rfl) (pv 1) (pe_glob (v := .ref T.aN) rfl T.gN rfl) rfl)))), ?_⟩
    clear G_Queuesneed_above_all G_Queues_can_store
    clear hr
    walk_at "go"
    intro H2 P2 sp2 hO
    walk_at "go"
    rw [decide_eq_true hrm]
    simp only [qu, List.cons_append, List.nil_append] at hO k
    obtain ⟨kl, hk, o1⟩ := hO.openD (a := s) (by walk_at "mem")
    replace hO := o1 _ (by walk_at "setat")
    clear o1
    have hl := ik_len hk
    rw [qD_len] at hl
    have hni : n ∉ qkeys ss := fun m => not_above hz (List.mem_append_right _ m)
    have hv := valV_ofN hk (find_none hni)
    have szk : kl.length < sizeLine := size_lt (by omega)
    walk_at "go"
    refine k _ (.dp (kl.map Prod.snd) ((ik (qD ss)).map Prod.snd) :: P2) (sp2.trans (Ps.skip Ps.refl)) ?_
    rw [← qD_put_new hni]
    walk_at "fin"
    all_goals first | exact putK_fst hk _ _ _ | exact Dv.put (Dv.of (by walk_at "mem")) hk (dvN T _)
end
end K77

set_option Elab.async false
set_option linter.all false
set_option maxRecDepth 100000
set_option maxHeartbeats 8000000

namespace K77
open PySem PySem.Spec PyProof.Rows L2 Hx 
local macro_rules | `(tactic| walk_at "sm") => `(tactic| repeat' (first | assumption | apply Hx.Same.upd | exact L2.Same.refl _ | apply same_trans'))
local macro_rules | `(tactic| walk_at "hp") => `(tactic| repeat' (first | assumption | exact upd_same | apply old_upd | apply same_at))
local macro_rules | `(tactic| walk_at "rd") => `(tactic| repeat' (first | rfl | apply Exists.intro | apply And.intro | refine iteT ?_ | refine iteF ?_ | exact upd_same | exact SqL.of (by assumption) | exact SqL.of upd_same | exact SqT.of upd_same | exact SqT.of (by assumption) | ((with_reducible show (_ : Int) < _); omega) | ((with_reducible show (_ : Int) ≤ _); omega) | (show (_ : Prop); assumption) | exact Or.inl ⟨_, by assumption, rfl⟩ | exact Or.inl ⟨rfl, _, SqL.of (by assumption)⟩ | exact Or.inl ⟨rfl, _, SqL.of upd_same⟩ | apply old_upd | apply Hx.SqL.new | apply tyl_new | apply Pot.new | exact same_at (by assumption) (by assumption) | exact Or.inl (SqL.of (by assumption)) | exact Or.inl (by assumption) | exact Or.inl (SqL.of upd_same) | exact size_le (Nat.le_of_ble_eq_true rfl) | exact Nat.le_of_ble_eq_true rfl | exact True.intro | exact Or.inl rfl | exact Or.inr rfl | (show (_ : Prop); omega) | (show (_ : Prop); dsimp only; omega) | exact mulw64 (by omega) (by omega) | exact mulw64 (by (try dsimp only); omega) (by (try dsimp only); omega)))
set_option hygiene false in
local macro_rules | `(tactic| walk_at "fl") => `(tactic| simp only [pu_Queues_load_rooms, pi_Queues_load_rooms, pu_Queues_store_rooms, pi_Queues_store_rooms, pu_Queues_loads, pi_Queues_loads, pu_Queues_stores, pi_Queues_stores] at hO)
local macro_rules | `(tactic| walk_at "mem") => `(tactic| ((repeat (first | exact List.Mem.head _ | apply List.Mem.tail | fail)); done))
local macro_rules | `(tactic| walk_at "setat") => `(tactic| ((repeat (first | (with_reducible exact At.head) | (with_reducible apply At.tail) | (with_reducible apply At.app) | fail)); done))
set_option hygiene false in
local macro_rules | `(tactic| walk_at "dv") => `(tactic| ((repeat' (first | exact Dv.nil | exact Dv.of (by walk_at "mem") | exact Dv.ints _ | exact Dv1.of (by walk_at "mem") | exact Dv1.int _ | exact Dv1.non | exact Dv1.bl _ | exact Dv1.str _ | (with_reducible apply Dv.cons) | refine Dv1.tup (by walk_at "mem") ?_ | refine Dv1.lst (by walk_at "mem") ?_ | (with_reducible apply Dv.app) | fail)); done))
local macro_rules | `(tactic| walk_at "ft") => `(tactic| (first | (with_reducible exact Ft.refl) | ((with_reducible apply Ft.toL); focus walk_at "dv") | ((with_reducible apply Ft.toS); focus assumption) | (with_reducible apply Ft.lst) | (with_reducible apply Ft.Le) | (with_reducible apply Ft.dK) | (with_reducible apply Ft.De) | (with_reducible apply Ft.ins) | (with_reducible apply Ft.toL) | (with_reducible apply Ft.toS) | (with_reducible apply Ft.toD) | fail))
local macro_rules | `(tactic| walk_at "sbL") => `(tactic| repeat' (first | (with_reducible exact Sb.refl _) | exact Sb.nil | (with_reducible apply Sb.cons) | (with_reducible apply Sb.app) | (with_reducible exact Pk.one) | (with_reducible exact Pk.here) | (with_reducible exact Pk.all) | (with_reducible apply Pk.skip1) | (with_reducible apply Pk.skipB) | (with_reducible apply Sb.skip) | (with_reducible apply Sb.skipB) | ((with_reducible show Ft _ _ _ _); walk_at "ft") | ((with_reducible show (_ : List _) = _); (first | rfl | (simp [List.map_set, List.map_append]; done) | fail)) | fail))
local macro_rules | `(tactic| walk_at "sb") => `(tactic| ((walk_at "sbL"); done))
local macro_rules | `(tactic| walk_at "ps") => `(tactic| ((repeat' (first | (with_reducible exact Ps.refl) | exact Ps.nil | (with_reducible apply Ps.cons) | exact List.Mem.head _ | apply List.Mem.tail | (with_reducible apply Ps.skip) | fail)); done))
set_option hygiene false in
local macro_rules | `(tactic| walk_at "at") => `(tactic| first | assumption | exact Own.raw hO (by walk_at "mem") | exact Own.ptup hO (by walk_at "mem") | exact Own.plst hO (by walk_at "mem") | fail)
set_option hygiene false in
local macro_rules | `(tactic| walk_at "st") => `(tactic| (rw [upd_mkO hO]; generalize e : updX _ _ _ = H1; (first | ((apply Own.cset hO e); (focus walk_at "setat"); (try clear hO e); intro hO) | ((apply Own.cnewT hO e); (focus assumption); (try clear hO e); intro hO) | ((apply Own.cnew hO e); (focus assumption); (try clear hO e); intro hO) | fail)))
set_option hygiene false in
local macro_rules | `(tactic| walk_at "mk") => `(tactic| (intro p1 p2 f1 f2 f3; rw [upd_mkO hO]; generalize e : upd (updX _ _ _) _ _ = H1; apply Own.cmake hO f1 f2 f3 e; (try clear hO e); intro hO))
set_option hygiene false in
local macro_rules | `(tactic| walk_at "own") => `(tactic| (first | ((apply Own.sub hO); (focus walk_at "sb"); (focus walk_at "ps")) | ((apply Own.sub hF); (focus walk_at "sb"); (focus walk_at "ps")) | fail))
set_option hygiene false in
local macro_rules | `(tactic| walk_at "fin") => `(tactic| (refine Own.sub hO ?_ (by walk_at "ps"); walk_at "sbL"))
set_option hygiene false in
local macro_rules | `(tactic| walk_at "g1") => `(tactic| (first
 | ((with_reducible show (_ : Option HO) = _); walk_at "at")
 | ((with_reducible show (_ : Int) < _); omega) | ((with_reducible show (_ : Int) ≤ _); omega)
 | ((with_reducible show (_ : Nat) < _); (first | assumption | exact Nat.le_of_ble_eq_true rfl | exact size_lt (Nat.le_of_ble_eq_true rfl) | omega | (simp; done) | (simp; omega) | fail))
 | ((with_reducible show (_ : Nat) ≤ _); (first | assumption | exact Nat.le_of_ble_eq_true rfl | exact size_le (Nat.le_of_ble_eq_true rfl) | omega | (simp; done) | (simp; omega) | fail))
 | ((with_reducible show Own _ _ _ _); (first | walk_at "own" | (walk_at "st"; walk_at "own") | fail))
 | ((with_reducible show SqL _ _ _ _); (first | assumption | exact SqL.of (by walk_at "at") | fail))
 | ((with_reducible show SqT _ _ _ _); (first | assumption | exact hO.psq (by walk_at "mem") | exact SqT.of (by walk_at "at") | fail))
  | ((with_reducible show Cls _ _); exact Txt.cl_Queues T) | ((with_reducible show NoAttr _ _ _); exact Txt.n_Queues_load_rooms T) | (with_reducible exact gt_Queues_load_rooms) | ((with_reducible show NoAttr _ _ _); exact Txt.n_Queues_store_rooms T) | (with_reducible exact gt_Queues_store_rooms) | ((with_reducible show NoAttr _ _ _); exact Txt.n_Queues_loads T) | (with_reducible exact gt_Queues_loads) | ((with_reducible show NoAttr _ _ _); exact Txt.n_Queues_stores T) | (with_reducible exact gt_Queues_stores)  | ((with_reducible show V.ref _ = V.ref _); (first | rfl | fail))
 | ((with_reducible show DGet _ _ _ _); (first | exact DGet.ki (by walk_at "at") (by assumption) | exact DGet.kiF (by walk_at "at") (by assumption) | fail))
 | ((with_reducible show DPut _ _ _ _ _); exact DPut.ki (by walk_at "at") (by assumption))
 | ((with_reducible show Rd _ _ _); (first | exact Or.inl (by walk_at "at") | exact Or.inr ⟨_, by walk_at "at"⟩ | fail))
 | ((with_reducible show (∃ _ : List (Key × V), _) ∨ _); refine Or.inl ⟨_, by walk_at "at", ?_⟩)
 | ((with_reducible show Dv _ _ _ _); focus walk_at "dv") | ((with_reducible show Dv1 _ _ _ _); focus walk_at "dv")
 | ((with_reducible show IsD _ _); exact Or.inl ⟨_, Or.inl (by walk_at "at")⟩)
 | ((with_reducible show V.int _ = kV _); exact kV_int)
 | ((with_reducible show Option.isSome _ = true); (first | exact isSome_ofV (by assumption) | assumption | fail))
 | ((with_reducible show SqL _ _ _ _ ∨ SqT _ _ _ _); (first | exact Or.inl (by assumption) | exact Or.inr (by assumption) | exact Or.inl (SqL.of (by walk_at "at")) | exact Or.inr (SqT.of (by walk_at "at")) | fail))
 | ((with_reducible show Dp _ _ _ _); (first | assumption | exact hO.dpL (by walk_at "mem") | exact .lst (SqL.of (by walk_at "at")) (hO.all (by walk_at "dv")) | exact hO.one (by walk_at "dv") | fail))
 | ((with_reducible show TruV _ _ _ _); (first | exact Or.inl ⟨_, SqL.of (by walk_at "at"), rfl⟩ | exact Or.inr (Or.inr ⟨_, by walk_at "at", rfl⟩) | exact Or.inr (Or.inl ⟨_, SqT.of (by walk_at "at"), rfl⟩) | fail))
 | ((with_reducible show RgOk _ _); exact RgOk.of_le (by omega) (by omega) (by omega) (by omega))
 | rfl | (with_reducible assumption) | apply And.intro | apply Exists.intro | refine iteT ?_ | refine iteF ?_
 | (walk_at "st"; (try walk_at "fl"))
 | ((with_reducible show ∀ _ : Addr, _ = none → _); (fail_if_success (with_reducible show ∀ _ : Addr, _ = none → ∃ _ : Nat → Nat → Hp → Prop, _)); intro p fp; walk_at "st")
 | (refine Or.inl ⟨SqL.of (by walk_at "at"), ?_⟩) | (refine Or.inr ⟨SqT.of (by walk_at "at"), ?_⟩) | exact Or.inl ⟨_, by walk_at "at", rfl⟩ | exact Or.inl ⟨rfl, _, SqL.of (by walk_at "at")⟩ | exact tyl_of (by walk_at "at") | exact Or.inl (SqL.of (by walk_at "at")) | exact Or.inr (SqT.of (by walk_at "at")) | exact Or.inl (by walk_at "at") | exact size_le (Nat.le_of_ble_eq_true rfl) | exact Nat.le_of_ble_eq_true rfl | exact True.intro | exact Or.inl rfl | exact Or.inr rfl | (show (_ : Prop); assumption) | (show (_ : Prop); omega) | (show (_ : Prop); dsimp only; omega) | exact mulw64 (by omega) (by omega) | exact mulw64 (by (try dsimp only); omega) (by (try dsimp only); omega) | fail))
local macro_rules | `(tactic| walk_at "go") => `(tactic| repeat walk_at "g1")

section
variable {P : Program} {w : World} {K : PySem.W.Frag} {mg : Str → Option Value} {base : Heap}
def hitE (n p : Int) (r : QR) : Bool := decide (n < r.1) && (decide (r.2.1 = some p) && (match r.2.2 with | none => true | some z => decide (z < n)))
def erl (ls : List QR) (n p : Int) : Option Int := (ls.find? (hitE n p)).map fun r => r.1
def setW (ss : List QR) (n : Int) (a b : Option Int) : List QR := ss.map fun r => if r.1 = n then (n, a, b) else r
theorem Dv1.opt {K : PySem.W.Frag} {H : Hp} {L : List (Addr × Ob)} {P : List Pf} {v : V} {o : Option Int} (h : Dv1 K P v (oD o)) (hO : Own K H L P) : v = oV o := by
  have d := hO.one h
  cases o with
  | none => cases d; rfl
  | some i => cases d; rfl
theorem Dv1.oV {K : PySem.W.Frag} {P : List Pf} (o : Option Int) : Dv1 K P (oV o) (oD o) := by
  cases o with
  | none => exact Dv1.non
  | some i => exact Dv1.int i
theorem find_row {rs : List QR} (nd : (qkeys rs).Nodup) {r : QR} (h : r ∈ rs) : valD (ik (qD rs)) (Sum.inl r.1) = some (.tuple [oD r.2.1, oD r.2.2]) := by
  rw [ik_val, qD, List.find?_map]
  induction rs with
  | nil => simp at h
  | cons q rs ih =>
    rw [qkeys, List.map_cons, List.nodup_cons] at nd
    rw [List.find?_cons]
    rcases List.mem_cons.mp h with rfl | h
    · simp
    · have : q.1 ≠ r.1 := fun z => nd.1 (List.mem_map.mpr ⟨r, h, z.symm⟩)
      simp only [Function.comp, this, decide_false]
      exact ih nd.2 h
theorem qD_put {rs : List QR} {n : Int} (h : n ∈ qkeys rs) (a b : Option Int) : putD (ik (qD rs)) (Sum.inl n) (.tuple [oD a, oD b]) = ik (qD (setW rs n a b)) := by
  have e := putD_rows (fun r : QR => r.1) (fun r => PyData.tuple [oD r.2.1, oD r.2.2]) rs n (.tuple [oD a, oD b]) (fun r => if r.1 = n then (n, a, b) else r) (by
    obtain ⟨r, hr, e⟩ := List.mem_map.mp h
    exact ⟨r, hr, e⟩) (fun r => by split <;> simp_all) (fun r _ e => by rw [if_pos e]) (fun r _ e => by rw [if_neg e])
  have e1 : ∀ rs : List QR, ik (qD rs) = rs.map fun r => (Sum.inl r.1, PyData.tuple [oD r.2.1, oD r.2.2]) := fun rs => by rw [ik, qD, List.map_map]; rfl
  rw [e1, e, e1, setW]
theorem setW_len (rs : List QR) (n : Int) (a b : Option Int) : (setW rs n a b).length = rs.length := by rw [setW, List.length_map]
theorem find_hit {rs : List QR} {f : QR → Bool} {i : Nat} {r : QR} (h : rs[i]? = some r) (hr : f r = true) (hn : ∀ (j : Nat) (q : QR), j < i → rs[j]? = some q → f q = false) : rs.find? f = some r := by
  induction rs generalizing i with
  | nil => simp at h
  | cons x rs ih =>
    cases i with
    | zero =>
      obtain rfl : x = r := by simpa using h
      rw [List.find?_cons, hr]
    | succ i =>
      rw [List.find?_cons, hn 0 x (Nat.succ_pos _) rfl]
      exact ih (by simpa using h) fun j q hj hq => hn (j + 1) q (Nat.succ_lt_succ hj) (by simpa using hq)
theorem find_nohit {rs : List QR} {f : QR → Bool} (hn : ∀ (j : Nat) (q : QR), j < rs.length → rs[j]? = some q → f q = false) : rs.find? f = none := by
  rw [List.find?_eq_none]
  intro r hr
  obtain ⟨j, hj, e⟩ := List.getElem_of_mem hr
  rw [hn j r hj (by rw [List.getElem?_eq_getElem hj, e])]
  exact Bool.false_ne_true
theorem no_snoc {rs : List QR} {f : QR → Bool} {i : Nat} {r : QR} (hn : ∀ (j : Nat) (q : QR), j < i → rs[j]? = some q → f q = false) (hi : rs[i]? = some r) (hr : f r = false) : ∀ (j : Nat) (q : QR), j < i + 1 → rs[j]? = some q → f q = false := fun j q hj hq => by
  by_cases e : j = i
  · subst e
    rw [hi] at hq
    exact Option.some.inj hq ▸ hr
  · exact hn j q (by omega) hq
theorem shN : SeqAt.shaped (.tuple [.none, .none]) = true := by decide
theorem eqvN : PyData.eqv (.tuple [.none, .none]) (.tuple [.none, .none]) = true := by decide
def sp_known (K : PySem.W.Frag) (C : Addr) : Sp := fun vs H Q _ => ∃ (x dx l s : Addr) (a b n pl wd : Int) (ls ss : List QR) (R : List (Addr × Ob)) (P : List Pf), vs = [.ref x, .int n, .int pl, .int wd] ∧ Own K H (qu C x dx l s a b ls ss ++ R) P ∧ 0 ≤ n ∧ (0 ≤ pl ∧ pl < 1024) ∧ (0 ≤ wd ∧ wd < 65536) ∧ (qkeys ss).Nodup ∧ (n, none, none) ∈ ss ∧ ls.length ≤ 100 ∧ ss.length ≤ 100 ∧
  ∀ (H' : Hp) (P' : List Pf), Ps P P' → Own K H' (qu C x dx l s a b ls (setW ss n (some pl) (some wd)) ++ R) P' → Q (oV (erl ls n pl)) H'
theorem ok_Queues_known (T : Txt K mg) : FnOk P w K mg base CX0 5 T.f_Queues_known T.fd_Queues_known ["self", "number", "place", "word"] (sp_known K T.C_Queues) := by
  have G__need_one_of := ok__need_one_of (P := P) (w := w) (base := base) T
  have G_need_place := ok_need_place (P := P) (w := w) (base := base) T
  have G_need_word := ok_need_word (P := P) (w := w) (base := base) T
  refine T.F_Queues_known.ok sc_Queues_known (fun vs H Q E h => ?_) (fun cdv A outer s H vs Q E hr h => ?_)
  · obtain ⟨x, dx, l, s, a, b, n, pl, wd, ls, ss, R, P, rfl, hO, hn, hp, hw, hnd, hm, hl1, hs1, k⟩ := h; rfl
  · obtain ⟨x, dx, l, s, a, b, n, pl, wd, ls, ss, R, P, rfl, hO, hn, hp, hw, hnd, hm, hl1, hs1, k⟩ := h
    refine ⟨_, (pss_cons (ps_expr (pe_call G__need_one_of (hr.mono (by decide)) rfl T.g__need_one_of T.F__need_one_of.kp T.b__need_one_of .nil pass0 (pa_cons (pe_fld (pv 0) rfl) (pa_cons (pv 1) pa_nil))))
        (pss_cons (ps_expr (pe_call G_need_place (hr.mono (by decide)) rfl T.g_need_place T.F_need_place.kp T.b_need_place .nil pass0 (pa_cons (pv 2) pa_nil)))
        (pss_cons (ps_expr (pe_call G_need_word (hr.mono (by decide)) rfl T.g_need_word T.F_need_word.kp T.b_need_word .nil pass0 (pa_cons (pv 3) pa_nil)))
        (pss_cons (ps_if (pt_cmpR (op_neD hr.units) (pe_dget (hu_of hr) (pe_fld (pv 0) rfl) (pv 1) (fun _ _ => rfl)) (pe_glob (v := .ref T.aN) rfl T.gN rfl) (nomark _))
          (pss_one ps_never)
          pss_nil)
        (pss_cons (ps_dput (hu_of hr) (pe_fld (pv 0) rfl) (pv 1) (pe_tup (pa_cons (pv 2) (pa_cons (pv 3) pa_nil))) rfl)
        (pss_cons (ps_lockS (ps_forS PassesOwn.never rfl (pi_items (pe_fld (pv 0) rfl)) (pg_tup rfl (pgs_cons (pg_name (i := 4) sc_Queues_known.nd rfl (Or.inl rfl)) (pgs_cons (pg_tup rfl (pgs_cons (pg_name (i := 5) sc_Queues_known.nd rfl (Or.inl rfl)) (pgs_cons (pg_name (i := 6) sc_Queues_known.nd rfl (Or.inl rfl)) pgs_nil))) pgs_nil)))
          (pss_one (ps_if (PW.pt (pw_and (pt_cmpR op_gt (pv 4) (pv 1) (nomark _)) (pw_and (pt_cmpR op_eq (pv 5) (pv 2) (nomark _)) (pw_and1 (PW.pt (pw_or (pt_cmpR op_isN (pv 6) pe_non (nomark _)) (pw_or1 (pt_cmpR op_lt (pv 6) (pv 1) (nomark _)))))))))
            (pss_one (ps_ret (pv 4)))
            pss_nil))))
        (pss_one (ps_ret pe_non)))))))), ?_⟩
    clear G__need_one_of G_need_place G_need_word
    clear hr
    simp only [qu, List.cons_append, List.nil_append] at hO k
    have hin : n ∈ (qD ss).map Prod.fst := by rw [qD_keys]; exact List.mem_map.mpr ⟨_, hm, rfl⟩
    have hF := hO
    obtain ⟨ks, hk2, o2⟩ := hO.openD (a := s) (by walk_at "mem")
    replace hO := o2 _ (by walk_at "setat")
    clear o2
    have hl := ik_len hk2
    rw [qD_len] at hl
    have vd : valD (ik (qD ss)) (Sum.inl n) = some (.tuple [.none, .none]) := find_row hnd hm
    obtain ⟨v, hv⟩ := valV_of hk2 vd
    have dv := Dv.val (K := K) (P := .dp (ks.map Prod.snd) ((ik (qD ss)).map Prod.snd) :: P) (Dv.of List.mem_cons_self) hk2 hv vd
    have hd1 := hO.one dv
    have hd2 := hO.one (dvN T _)
    have s1 := shN
    have szk : ks.length < sizeLine := size_lt (by omega)
    walk_at "go"
    replace hO : Own K H1 ((x, .raw (.ins T.C_Queues dx (F_Queues (.int a) (.int b) (.ref l) (.ref s)))) :: (l, .D (ik (qD ls))) :: (s, .D (ik (qD (setW ss n (some pl) (some wd))))) :: R) (.tup p [.int pl, .int wd] :: .dp (ks.map Prod.snd) ((ik (qD ss)).map Prod.snd) :: P) := by
      rw [← qD_put (by rwa [qD_keys] at hin)]
      refine Own.sub hO ?_ Ps.refl
      walk_at "sbL"
      · exact putK_fst hk2 _ _ _
      · exact Dv.put (Dv.of (by walk_at "mem")) hk2 (Dv1.tup List.mem_cons_self (Dv.cons (Dv1.int _) (Dv.cons (Dv1.int _) Dv.nil)))
    have sp1 : Ps P (.tup p [.int pl, .int wd] :: .dp (ks.map Prod.snd) ((ik (qD ss)).map Prod.snd) :: P) := Ps.skip (Ps.skip Ps.refl)
    generalize (.tup p [.int pl, .int wd] :: .dp (ks.map Prod.snd) ((ik (qD ss)).map Prod.snd) :: P : List Pf) = P1 at hO sp1
    clear hF hd1 hd2 dv hv vd
    generalize setW ss n (some pl) (some wd) = ss2 at hO k
    walk_at "go"
    obtain ⟨kl, hk, o1⟩ := hO.openD (a := l) (by walk_at "mem")
    replace hO := o1 _ (by walk_at "setat")
    clear o1
    have hll := ik_len hk
    rw [qD_len] at hll
    refine hO.lockS (d := l) (u := .dK kl) (by walk_at "mem") trivial fun od H2 o2 => ?_
    replace hO := o2 _ (by walk_at "setat")
    clear o2
    walk_at "go"
    refine ⟨for_it (walk_items (kvs := kl)) (fun i σ H' => Stop (∃ (t4 t5 t6 : Option V) (P' : List Pf), σ = [some (.ref x), some (.int n), some (.int pl), some (.int wd), t4, t5, t6] ∧ Ps (.dp (kl.map Prod.snd) ((ik (qD ls)).map Prod.snd) :: P1) P' ∧ (∀ (j : Nat) (q : QR), j < i → ls[j]? = some q → hitE n pl q = false) ∧ Own K H' ((x, .raw (.ins T.C_Queues dx (F_Queues (.int a) (.int b) (.ref l) (.ref s)))) :: (l, .raw (.frz od (.dK kl))) :: (s, .D (ik (qD ss2))) :: R) P')) ⟨⟨none, none, none, _, rfl, Ps.refl, (fun j q h => nomatch h), hO⟩⟩ (fun i σ H' hi h => ?_) (fun i v σ H1 H' hi h hY => ?_) (fun σ H' h => ?_)⟩
    · obtain ⟨t4, t5, t6, P', rfl, sp, hno, hO⟩ := h.h
      exact hO.raw (by walk_at "mem")
    · clear hO
      obtain ⟨t4, t5, t6, P', rfl, sp, hno, hO⟩ := h.h
      clear h
      obtain ⟨t0, kx, vx, rfl, hT, rfl, e1, e2⟩ := hY
      obtain ⟨kv, ekv, rfl⟩ := Option.map_eq_some_iff.mp e1
      obtain rfl : kv.2 = vx := by
        have e2' : kl[i]?.map Prod.snd = some vx := e2
        rw [ekv] at e2'
        exact Option.some.inj e2'
      obtain ⟨r, er, ek⟩ := ik_get hk (k := kv.1) (v := kv.2) ekv
      have er2 := er
      rw [qD, List.getElem?_map] at er2
      obtain ⟨q, hq, rfl⟩ := Option.map_eq_some_iff.mp er2
      rw [ek]
      replace hO := hO.newT (vs := [.int q.1, kv.2]) hT rfl
      obtain ⟨t, a', b', ev, hO⟩ := hO.opn2 (x := oD q.2.1) (y := oD q.2.2) (Dv.get (vs := kl.map Prod.snd) (ds := (ik (qD ls)).map Prod.snd) (Dv.of (List.mem_cons_of_mem _ (sp _ List.mem_cons_self))) (by rw [List.getElem?_map, ekv]; rfl) (i := i) (by simp [ik, qD, hq]))
      obtain rfl : a' = oV q.2.1 := Dv1.opt (Dv1.of (by walk_at "mem")) hO
      obtain rfl : b' = oV q.2.2 := Dv1.opt (Dv1.of (by walk_at "mem")) hO
      rw [ev] at hO ⊢
      have sp4 := sp.trans ((Ps.skip (q := Pf.sq t [oV q.2.1, oV q.2.2]) (Ps.skip (q := Pf.dp [oV q.2.1] [oD q.2.1]) (Ps.skip (q := Pf.dp [oV q.2.2] [oD q.2.2]) (Ps.skip (q := Pf.tup t0 [.int q.1, .ref t]) Ps.refl)))))
      have hyes : hitE n pl q = true → erl ls n pl = some q.1 := fun h => by rw [erl, find_hit hq h hno]; rfl
      have hnon : hitE n pl q = false → _ := no_snoc hno hq
      clear er er2 e1 e2 ekv hno
      obtain ⟨ln, oa, ob⟩ := q
      dsimp only at hO hyes hnon sp4 ⊢
      rw [show kV (Sum.inl ln) = V.int ln from rfl]
      generalize upd H1 t0 (.tup [.int ln, .ref t]) = H3 at hO ⊢
      rcases oa with _ | oa
      · walk_at "go"
        refine iteD (fun h1 => ?_) (fun h1 => ?_)
        · walk_at "go"
          exact ⟨⟨_, _, _, _, rfl, sp4, hnon (by simp [hitE, h1]), hO⟩⟩
        · walk_at "go"
          exact ⟨⟨_, _, _, _, rfl, sp4, hnon (by simp [hitE, h1]), hO⟩⟩
      · rcases ob with _ | ob
        · walk_at "go"
          refine iteD (fun h1 => ?_) (fun h1 => ?_)
          · walk_at "go"
            refine iteD (fun h2 => ?_) (fun h2 => ?_)
            · have e2 : oa = pl := V.int.inj h2
              rw [hyes (by simp [hitE, h1, e2])] at k
              walk_at "go"
              refine k _ _ (sp1.trans ((Ps.skip Ps.refl).trans sp4)) ?_
              walk_at "fin"
              · exact hk
              · exact Dv.of (sp4 _ List.mem_cons_self)
            · have e2 : oa ≠ pl := fun z => h2 (congrArg V.int z)
              walk_at "go"
              exact ⟨⟨_, _, _, _, rfl, sp4, hnon (by simp [hitE, h1, e2]), hO⟩⟩
          · walk_at "go"
            exact ⟨⟨_, _, _, _, rfl, sp4, hnon (by simp [hitE, h1]), hO⟩⟩
        · walk_at "go"
          refine iteD (fun h1 => ?_) (fun h1 => ?_)
          · walk_at "go"
            refine iteD (fun h2 => ?_) (fun h2 => ?_)
            · have e2 : oa = pl := V.int.inj h2
              walk_at "go"
              refine iteD (fun h3 => ?_) (fun h3 => ?_)
              · rw [hyes (by simp [hitE, h1, e2, h3])] at k
                walk_at "go"
                refine k _ _ (sp1.trans ((Ps.skip Ps.refl).trans sp4)) ?_
                walk_at "fin"
                · exact hk
                · exact Dv.of (sp4 _ List.mem_cons_self)
              · walk_at "go"
                exact ⟨⟨_, _, _, _, rfl, sp4, hnon (by simp [hitE, h1, e2, h3]), hO⟩⟩
            · have e2 : oa ≠ pl := fun z => h2 (congrArg V.int z)
              walk_at "go"
              exact ⟨⟨_, _, _, _, rfl, sp4, hnon (by simp [hitE, h1, e2]), hO⟩⟩
          · walk_at "go"
            exact ⟨⟨_, _, _, _, rfl, sp4, hnon (by simp [hitE, h1]), hO⟩⟩
    · clear hO
      obtain ⟨t4, t5, t6, P', rfl, sp, hno, hO⟩ := h.h
      clear h
      walk_at "go"
      rw [hll] at hno
      have e : erl ls n pl = none := by rw [erl, find_nohit hno]; rfl
      rw [e] at k
      refine k _ P' (sp1.trans ((Ps.skip Ps.refl).trans sp)) ?_
      walk_at "fin"
      · exact hk
      · exact Dv.of (sp _ List.mem_cons_self)
end
end K77

set_option Elab.async false
set_option linter.all false
set_option maxRecDepth 100000
set_option maxHeartbeats 8000000

namespace K77
open PySem PySem.Spec PyProof.Rows L2 Hx 
local macro_rules | `(tactic| walk_at "sm") => `(tactic| repeat' (first | assumption | apply Hx.Same.upd | exact L2.Same.refl _ | apply same_trans'))
local macro_rules | `(tactic| walk_at "hp") => `(tactic| repeat' (first | assumption | exact upd_same | apply old_upd | apply same_at))
local macro_rules | `(tactic| walk_at "rd") => `(tactic| repeat' (first | rfl | apply Exists.intro | apply And.intro | refine iteT ?_ | refine iteF ?_ | exact upd_same | exact SqL.of (by assumption) | exact SqL.of upd_same | exact SqT.of upd_same | exact SqT.of (by assumption) | ((with_reducible show (_ : Int) < _); omega) | ((with_reducible show (_ : Int) ≤ _); omega) | (show (_ : Prop); assumption) | exact Or.inl ⟨_, by assumption, rfl⟩ | exact Or.inl ⟨rfl, _, SqL.of (by assumption)⟩ | exact Or.inl ⟨rfl, _, SqL.of upd_same⟩ | apply old_upd | apply Hx.SqL.new | apply tyl_new | apply Pot.new | exact same_at (by assumption) (by assumption) | exact Or.inl (SqL.of (by assumption)) | exact Or.inl (by assumption) | exact Or.inl (SqL.of upd_same) | exact size_le (Nat.le_of_ble_eq_true rfl) | exact Nat.le_of_ble_eq_true rfl | exact True.intro | exact Or.inl rfl | exact Or.inr rfl | (show (_ : Prop); omega) | (show (_ : Prop); dsimp only; omega) | exact mulw64 (by omega) (by omega) | exact mulw64 (by (try dsimp only); omega) (by (try dsimp only); omega)))
set_option hygiene false in
local macro_rules | `(tactic| walk_at "fl") => `(tactic| simp only [pu_Queues_load_rooms, pi_Queues_load_rooms, pu_Queues_store_rooms, pi_Queues_store_rooms, pu_Queues_loads, pi_Queues_loads, pu_Queues_stores, pi_Queues_stores] at hO)
local macro_rules | `(tactic| walk_at "mem") => `(tactic| ((repeat (first | exact List.Mem.head _ | apply List.Mem.tail | fail)); done))
local macro_rules | `(tactic| walk_at "setat") => `(tactic| ((repeat (first | (with_reducible exact At.head) | (with_reducible apply At.tail) | (with_reducible apply At.app) | fail)); done))
set_option hygiene false in
local macro_rules | `(tactic| walk_at "dv") => `(tactic| ((repeat' (first | exact Dv.nil | exact Dv.of (by walk_at "mem") | exact Dv.ints _ | exact Dv1.of (by walk_at "mem") | exact Dv1.int _ | exact Dv1.non | exact Dv1.bl _ | exact Dv1.str _ | (with_reducible apply Dv.cons) | refine Dv1.tup (by walk_at "mem") ?_ | refine Dv1.lst (by walk_at "mem") ?_ | (with_reducible apply Dv.app) | fail)); done))
local macro_rules | `(tactic| walk_at "ft") => `(tactic| (first | (with_reducible exact Ft.refl) | ((with_reducible apply Ft.toL); focus walk_at "dv") | ((with_reducible apply Ft.toS); focus assumption) | (with_reducible apply Ft.lst) | (with_reducible apply Ft.Le) | (with_reducible apply Ft.dK) | (with_reducible apply Ft.De) | (with_reducible apply Ft.ins) | (with_reducible apply Ft.toL) | (with_reducible apply Ft.toS) | (with_reducible apply Ft.toD) | fail))
local macro_rules | `(tactic| walk_at "sbL") => `(tactic| repeat' (first | (with_reducible exact Sb.refl _) | exact Sb.nil | (with_reducible apply Sb.cons) | (with_reducible apply Sb.app) | (with_reducible exact Pk.one) | (with_reducible exact Pk.here) | (with_reducible exact Pk.all) | (with_reducible apply Pk.skip1) | (with_reducible apply Pk.skipB) | (with_reducible apply Sb.skip) | (with_reducible apply Sb.skipB) | ((with_reducible show Ft _ _ _ _); walk_at "ft") | ((with_reducible show (_ : List _) = _); (first | rfl | (simp [List.map_set, List.map_append]; done) | fail)) | fail))
local macro_rules | `(tactic| walk_at "sb") => `(tactic| ((walk_at "sbL"); done))
local macro_rules | `(tactic| walk_at "ps") => `(tactic| ((repeat' (first | (with_reducible exact Ps.refl) | exact Ps.nil | (with_reducible apply Ps.cons) | exact List.Mem.head _ | apply List.Mem.tail | (with_reducible apply Ps.skip) | fail)); done))
set_option hygiene false in
local macro_rules | `(tactic| walk_at "at") => `(tactic| first | assumption | exact Own.raw hO (by walk_at "mem") | exact Own.ptup hO (by walk_at "mem") | exact Own.plst hO (by walk_at "mem") | fail)
set_option hygiene false in
local macro_rules | `(tactic| walk_at "st") => `(tactic| (rw [upd_mkO hO]; generalize e : updX _ _ _ = H1; (first | ((apply Own.cset hO e); (focus walk_at "setat"); (try clear hO e); intro hO) | ((apply Own.cnewT hO e); (focus assumption); (try clear hO e); intro hO) | ((apply Own.cnew hO e); (focus assumption); (try clear hO e); intro hO) | fail)))
set_option hygiene false in
local macro_rules | `(tactic| walk_at "mk") => `(tactic| (intro p1 p2 f1 f2 f3; rw [upd_mkO hO]; generalize e : upd (updX _ _ _) _ _ = H1; apply Own.cmake hO f1 f2 f3 e; (try clear hO e); intro hO))
set_option hygiene false in
local macro_rules | `(tactic| walk_at "own") => `(tactic| (first | ((apply Own.sub hO); (focus walk_at "sb"); (focus walk_at "ps")) | ((apply Own.sub hF); (focus walk_at "sb"); (focus walk_at "ps")) | fail))
set_option hygiene false in
local macro_rules | `(tactic| walk_at "fin") => `(tactic| (refine Own.sub hO ?_ (by walk_at "ps"); walk_at "sbL"))
set_option hygiene false in
local macro_rules | `(tactic| walk_at "g1") => `(tactic| (first
 | ((with_reducible show (_ : Option HO) = _); walk_at "at")
 | ((with_reducible show (_ : Int) < _); omega) | ((with_reducible show (_ : Int) ≤ _); omega)
 | ((with_reducible show (_ : Nat) < _); (first | assumption | exact Nat.le_of_ble_eq_true rfl | exact size_lt (Nat.le_of_ble_eq_true rfl) | omega | (simp; done) | (simp; omega) | fail))
 | ((with_reducible show (_ : Nat) ≤ _); (first | assumption | exact Nat.le_of_ble_eq_true rfl | exact size_le (Nat.le_of_ble_eq_true rfl) | omega | (simp; done) | (simp; omega) | fail))
 | ((with_reducible show Own _ _ _ _); (first | walk_at "own" | (walk_at "st"; walk_at "own") | fail))
 | ((with_reducible show SqL _ _ _ _); (first | assumption | exact SqL.of (by walk_at "at") | fail))
 | ((with_reducible show SqT _ _ _ _); (first | assumption | exact hO.psq (by walk_at "mem") | exact SqT.of (by walk_at "at") | fail))
  | ((with_reducible show Cls _ _); exact Txt.cl_Queues T) | ((with_reducible show NoAttr _ _ _); exact Txt.n_Queues_load_rooms T) | (with_reducible exact gt_Queues_load_rooms) | ((with_reducible show NoAttr _ _ _); exact Txt.n_Queues_store_rooms T) | (with_reducible exact gt_Queues_store_rooms) | ((with_reducible show NoAttr _ _ _); exact Txt.n_Queues_loads T) | (with_reducible exact gt_Queues_loads) | ((with_reducible show NoAttr _ _ _); exact Txt.n_Queues_stores T) | (with_reducible exact gt_Queues_stores)  | ((with_reducible show V.ref _ = V.ref _); (first | rfl | fail))
 | ((with_reducible show DGet _ _ _ _); (first | exact DGet.ki (by walk_at "at") (by assumption) | exact DGet.kiF (by walk_at "at") (by assumption) | fail))
 | ((with_reducible show DPut _ _ _ _ _); exact DPut.ki (by walk_at "at") (by assumption))
 | ((with_reducible show Rd _ _ _); (first | exact Or.inl (by walk_at "at") | exact Or.inr ⟨_, by walk_at "at"⟩ | fail))
 | ((with_reducible show (∃ _ : List (Key × V), _) ∨ _); refine Or.inl ⟨_, by walk_at "at", ?_⟩)
 | ((with_reducible show Dv _ _ _ _); focus walk_at "dv") | ((with_reducible show Dv1 _ _ _ _); focus walk_at "dv")
 | ((with_reducible show IsD _ _); exact Or.inl ⟨_, Or.inl (by walk_at "at")⟩)
 | ((with_reducible show V.int _ = kV _); exact kV_int)
 | ((with_reducible show Option.isSome _ = true); (first | exact isSome_ofV (by assumption) | assumption | fail))
 | ((with_reducible show SqL _ _ _ _ ∨ SqT _ _ _ _); (first | exact Or.inl (by assumption) | exact Or.inr (by assumption) | exact Or.inl (SqL.of (by walk_at "at")) | exact Or.inr (SqT.of (by walk_at "at")) | fail))
 | ((with_reducible show Dp _ _ _ _); (first | assumption | exact hO.dpL (by walk_at "mem") | exact .lst (SqL.of (by walk_at "at")) (hO.all (by walk_at "dv")) | exact hO.one (by walk_at "dv") | fail))
 | ((with_reducible show TruV _ _ _ _); (first | exact Or.inl ⟨_, SqL.of (by walk_at "at"), rfl⟩ | exact Or.inr (Or.inr ⟨_, by walk_at "at", rfl⟩) | exact Or.inr (Or.inl ⟨_, SqT.of (by walk_at "at"), rfl⟩) | fail))
 | ((with_reducible show RgOk _ _); exact RgOk.of_le (by omega) (by omega) (by omega) (by omega))
 | rfl | (with_reducible assumption) | apply And.intro | apply Exists.intro | refine iteT ?_ | refine iteF ?_
 | (walk_at "st"; (try walk_at "fl"))
 | ((with_reducible show ∀ _ : Addr, _ = none → _); (fail_if_success (with_reducible show ∀ _ : Addr, _ = none → ∃ _ : Nat → Nat → Hp → Prop, _)); intro p fp; walk_at "st")
 | (refine Or.inl ⟨SqL.of (by walk_at "at"), ?_⟩) | (refine Or.inr ⟨SqT.of (by walk_at "at"), ?_⟩) | exact Or.inl ⟨_, by walk_at "at", rfl⟩ | exact Or.inl ⟨rfl, _, SqL.of (by walk_at "at")⟩ | exact tyl_of (by walk_at "at") | exact Or.inl (SqL.of (by walk_at "at")) | exact Or.inr (SqT.of (by walk_at "at")) | exact Or.inl (by walk_at "at") | exact size_le (Nat.le_of_ble_eq_true rfl) | exact Nat.le_of_ble_eq_true rfl | exact True.intro | exact Or.inl rfl | exact Or.inr rfl | (show (_ : Prop); assumption) | (show (_ : Prop); omega) | (show (_ : Prop); dsimp only; omega) | exact mulw64 (by omega) (by omega) | exact mulw64 (by (try dsimp only); omega) (by (try dsimp only); omega) | fail))
local macro_rules | `(tactic| walk_at "go") => `(tactic| repeat walk_at "g1")

section
variable {P : Program} {w : World} {K : PySem.W.Frag} {mg : Str → Option Value} {base : Heap}
/-- the newest store ahead of n to that place, told of -/
def srcOf (ss : List QR) (n p : Int) : Option (Int × Option Int) := ((ss.filter fun r => decide (r.1 < n) && decide (r.2.1 = some p)).getLast?).map fun r => (r.1, r.2.2)
def srcD : Option (Int × Option Int) → PyData
  | none => .tuple [.str "memory"]
  | some z => .tuple [.str "store", .int z.1, oD z.2]
theorem srcOf_snoc {ss : List QR} {i : Nat} {r : QR} (h : ss[i]? = some r) (n p : Int) : srcOf (ss.take (i + 1)) n p = if r.1 < n ∧ r.2.1 = some p then some (r.1, r.2.2) else srcOf (ss.take i) n p := by
  unfold srcOf
  rw [List.take_add_one, h]
  show ((ss.take i ++ [r]).filter _).getLast?.map _ = _
  rw [List.filter_append]
  by_cases e : r.1 < n ∧ r.2.1 = some p
  · rw [if_pos e, List.filter_cons, if_pos (by simp [e])]
    simp
  · rw [if_neg e, List.filter_cons, if_neg (by simpa using e)]
    simp
def sp_source (K : PySem.W.Frag) (C : Addr) : Sp := fun vs H Q _ => ∃ (x dx l s : Addr) (a b n pl : Int) (ls ss : List QR) (R : List (Addr × Ob)) (P : List Pf), vs = [.ref x, .int n, .int pl] ∧ Own K H (qu C x dx l s a b ls ss ++ R) P ∧ 0 ≤ n ∧ (0 ≤ pl ∧ pl < 1024) ∧ n ∈ qkeys ls ∧ ls.length ≤ 100 ∧ ss.length ≤ 100 ∧
  ∀ (t : Addr) (H' : Hp) (P' : List Pf), Ps P P' → Own K H' (qu C x dx l s a b ls ss ++ R) P' → Dv1 K P' (.ref t) (srcD (srcOf ss n pl)) → Q (.ref t) H'
theorem ok_Queues_source (T : Txt K mg) : FnOk P w K mg base CX0 5 T.f_Queues_source T.fd_Queues_source ["self", "number", "place"] (sp_source K T.C_Queues) := by
  have G__need_one_of := ok__need_one_of (P := P) (w := w) (base := base) T
  have G_need_place := ok_need_place (P := P) (w := w) (base := base) T
  refine T.F_Queues_source.ok sc_Queues_source (fun vs H Q E h => ?_) (fun cdv A outer s H vs Q E hr h => ?_)
  · obtain ⟨x, dx, l, s, a, b, n, pl, ls, ss, R, P, rfl, hO, hn, hp, hm, hl1, hs1, k⟩ := h; rfl
  · obtain ⟨x, dx, l, s, a, b, n, pl, ls, ss, R, P, rfl, hO, hn, hp, hm, hl1, hs1, k⟩ := h
    refine ⟨_, (pss_cons (ps_expr (pe_call G__need_one_of (hr.mono (by decide)) rfl T.g__need_one_of T.F__need_one_of.kp T.b__need_one_of .nil pass0 (pa_cons (pe_fld (pv 0) rfl) (pa_cons (pv 1) pa_nil))))
        (pss_cons (ps_expr (pe_call G_need_place (hr.mono (by decide)) rfl T.g_need_place T.F_need_place.kp T.b_need_place .nil pass0 (pa_cons (pv 2) pa_nil)))
        (pss_cons (ps_set (i := 3) sc_Queues_source.nd rfl (Or.inl rfl) (pe_tup (pa_cons pe_str pa_nil)))
        (pss_cons (ps_lockS (ps_forS PassesOwn.never rfl (pi_items (pe_fld (pv 0) rfl)) (pg_tup rfl (pgs_cons (pg_name (i := 4) sc_Queues_source.nd rfl (Or.inl rfl)) (pgs_cons (pg_tup rfl (pgs_cons (pg_name (i := 5) sc_Queues_source.nd rfl (Or.inl rfl)) (pgs_cons (pg_name (i := 6) sc_Queues_source.nd rfl (Or.inl rfl)) pgs_nil))) pgs_nil)))
          (pss_one (ps_if (PW.pt (pw_and (pt_cmpR op_lt (pv 4) (pv 1) (nomark _)) (pw_and1 (pt_cmpR op_eq (pv 5) (pv 2) (nomark _)))))
            (pss_one (ps_set (i := 3) sc_Queues_source.nd rfl (Or.inl rfl) (pe_tup (pa_cons pe_str (pa_cons (pv 4) (pa_cons (pv 6) pa_nil))))))
            pss_nil))))
        (pss_one (ps_ret (pv 3))))))), ?_⟩
    clear G__need_one_of G_need_place
    clear hr
    simp only [qu, List.cons_append, List.nil_append] at hO k
    have hin : n ∈ (qD ls).map Prod.fst := by rw [qD_keys]; exact hm
    have hF := hO
    obtain ⟨ks, hk, o1⟩ := hO.openD (a := s) (by walk_at "mem")
    replace hO := o1 _ (by walk_at "setat")
    clear o1
    have hll := ik_len hk
    rw [qD_len] at hll
    walk_at "go"
    clear hF
    have dv0 : Dv1 K (.tup p [.str "memory"] :: .dp (ks.map Prod.snd) ((ik (qD ss)).map Prod.snd) :: P) (.ref p) (srcD (srcOf (ss.take 0) n pl)) := Dv1.tup List.mem_cons_self (Dv.cons (Dv1.str _) Dv.nil)
    walk_at "go"
    refine hO.lockS (d := s) (u := .dK ks) (by walk_at "mem") trivial fun od H2 o2 => ?_
    replace hO := o2 _ (by walk_at "setat")
    clear o2
    walk_at "go"
    refine ⟨for_it (walk_items (kvs := ks)) (fun i σ H' => Stop (∃ (t4 t5 t6 : Option V) (f : Addr) (P' : List Pf), σ = [some (.ref x), some (.int n), some (.int pl), some (.ref f), t4, t5, t6] ∧ Ps (.dp (ks.map Prod.snd) ((ik (qD ss)).map Prod.snd) :: P) P' ∧ Dv1 K P' (.ref f) (srcD (srcOf (ss.take i) n pl)) ∧ Own K H' ((x, .raw (.ins T.C_Queues dx (F_Queues (.int a) (.int b) (.ref l) (.ref s)))) :: (l, .D (ik (qD ls))) :: (s, .raw (.frz od (.dK ks))) :: R) P')) ⟨⟨none, none, none, p, _, rfl, Ps.skip Ps.refl, dv0, hO⟩⟩ (fun i σ H' hi h => ?_) (fun i v σ H1 H' hi h hY => ?_) (fun σ H' h => ?_)⟩
    · obtain ⟨t4, t5, t6, f, P', rfl, sp, df, hO⟩ := h.h
      exact hO.raw (by walk_at "mem")
    · clear hO dv0
      obtain ⟨t4, t5, t6, f, P', rfl, sp, df, hO⟩ := h.h
      clear h
      obtain ⟨t0, kx, vx, rfl, hT, rfl, e1, e2⟩ := hY
      obtain ⟨kv, ekv, rfl⟩ := Option.map_eq_some_iff.mp e1
      obtain rfl : kv.2 = vx := by
        have e2' : ks[i]?.map Prod.snd = some vx := e2
        rw [ekv] at e2'
        exact Option.some.inj e2'
      obtain ⟨r, er, ek⟩ := ik_get hk (k := kv.1) (v := kv.2) ekv
      have er2 := er
      rw [qD, List.getElem?_map] at er2
      obtain ⟨q, hq, rfl⟩ := Option.map_eq_some_iff.mp er2
      rw [ek]
      replace hO := hO.newT (vs := [.int q.1, kv.2]) hT rfl
      obtain ⟨t, a', b', ev, hO⟩ := hO.opn2 (x := oD q.2.1) (y := oD q.2.2) (Dv.get (vs := ks.map Prod.snd) (ds := (ik (qD ss)).map Prod.snd) (Dv.of (List.mem_cons_of_mem _ (sp _ List.mem_cons_self))) (by rw [List.getElem?_map, ekv]; rfl) (i := i) (by simp [ik, qD, hq]))
      obtain rfl : a' = oV q.2.1 := Dv1.opt (Dv1.of (by walk_at "mem")) hO
      obtain rfl : b' = oV q.2.2 := Dv1.opt (Dv1.of (by walk_at "mem")) hO
      rw [ev] at hO ⊢
      have sq4 := (Ps.skip (q := Pf.sq t [oV q.2.1, oV q.2.2]) (Ps.skip (q := Pf.dp [oV q.2.1] [oD q.2.1]) (Ps.skip (q := Pf.dp [oV q.2.2] [oD q.2.2]) (Ps.skip (q := Pf.tup t0 [.int q.1, .ref t]) (Ps.refl (P := P'))))))
      have sp4 := sp.trans sq4
      have hs := srcOf_snoc hq n pl
      replace df := df.mono sq4
      clear er er2 e1 e2 ekv sq4
      obtain ⟨ln, oa, ob⟩ := q
      dsimp only at hO hs sp4 df ⊢
      rw [show kV (Sum.inl ln) = V.int ln from rfl]
      generalize upd H1 t0 (.tup [.int ln, .ref t]) = H3 at hO ⊢
      rcases oa with _ | oa
      · rw [if_neg (by simp)] at hs
        rw [← hs] at df
        walk_at "go"
        refine iteD (fun h1 => ?_) (fun h1 => ?_)
        · walk_at "go"
          exact ⟨⟨_, _, _, _, _, rfl, sp4, df, hO⟩⟩
        · walk_at "go"
          exact ⟨⟨_, _, _, _, _, rfl, sp4, df, hO⟩⟩
      · walk_at "go"
        refine iteD (fun h1 => ?_) (fun h1 => ?_)
        · walk_at "go"
          refine iteD (fun h2 => ?_) (fun h2 => ?_)
          · have e2 : oa = pl := V.int.inj h2
            rw [if_pos ⟨h1, by rw [e2]⟩] at hs
            walk_at "go"
            refine ⟨⟨_, _, _, _, _, rfl, sp4.trans (Ps.skip Ps.refl), ?_, hO⟩⟩
            rw [hs]
            exact Dv1.tup List.mem_cons_self (Dv.cons (Dv1.str _) (Dv.cons (Dv1.int _) (Dv.cons (Dv1.oV _) Dv.nil)))
          · have e2 : oa ≠ pl := fun z => h2 (congrArg V.int z)
            rw [if_neg (by simp [e2])] at hs
            rw [← hs] at df
            walk_at "go"
            exact ⟨⟨_, _, _, _, _, rfl, sp4, df, hO⟩⟩
        · rw [if_neg (by simp [h1])] at hs
          rw [← hs] at df
          walk_at "go"
          exact ⟨⟨_, _, _, _, _, rfl, sp4, df, hO⟩⟩
    · clear hO dv0
      obtain ⟨t4, t5, t6, f, P', rfl, sp, df, hO⟩ := h.h
      clear h
      rw [hll, List.take_length] at df
      walk_at "go"
      refine k f _ P' ((Ps.skip Ps.refl).trans sp) ?_ df
      walk_at "fin"
      · exact hk
      · exact Dv.of (sp _ List.mem_cons_self)
end
end K77

set_option Elab.async false
set_option linter.all false
set_option maxRecDepth 100000
set_option maxHeartbeats 8000000

namespace K77
open PySem PySem.Spec PyProof.Rows L2 Hx 
local macro_rules | `(tactic| walk_at "sm") => `(tactic| repeat' (first | assumption | apply Hx.Same.upd | exact L2.Same.refl _ | apply same_trans'))
local macro_rules | `(tactic| walk_at "hp") => `(tactic| repeat' (first | assumption | exact upd_same | apply old_upd | apply same_at))
local macro_rules | `(tactic| walk_at "rd") => `(tactic| repeat' (first | rfl | apply Exists.intro | apply And.intro | refine iteT ?_ | refine iteF ?_ | exact upd_same | exact SqL.of (by assumption) | exact SqL.of upd_same | exact SqT.of upd_same | exact SqT.of (by assumption) | ((with_reducible show (_ : Int) < _); omega) | ((with_reducible show (_ : Int) ≤ _); omega) | (show (_ : Prop); assumption) | exact Or.inl ⟨_, by assumption, rfl⟩ | exact Or.inl ⟨rfl, _, SqL.of (by assumption)⟩ | exact Or.inl ⟨rfl, _, SqL.of upd_same⟩ | apply old_upd | apply Hx.SqL.new | apply tyl_new | apply Pot.new | exact same_at (by assumption) (by assumption) | exact Or.inl (SqL.of (by assumption)) | exact Or.inl (by assumption) | exact Or.inl (SqL.of upd_same) | exact size_le (Nat.le_of_ble_eq_true rfl) | exact Nat.le_of_ble_eq_true rfl | exact True.intro | exact Or.inl rfl | exact Or.inr rfl | (show (_ : Prop); omega) | (show (_ : Prop); dsimp only; omega) | exact mulw64 (by omega) (by omega) | exact mulw64 (by (try dsimp only); omega) (by (try dsimp only); omega)))
set_option hygiene false in
local macro_rules | `(tactic| walk_at "fl") => `(tactic| simp only [pu_Queues_load_rooms, pi_Queues_load_rooms, pu_Queues_store_rooms, pi_Queues_store_rooms, pu_Queues_loads, pi_Queues_loads, pu_Queues_stores, pi_Queues_stores] at hO)
local macro_rules | `(tactic| walk_at "mem") => `(tactic| ((repeat (first | exact List.Mem.head _ | apply List.Mem.tail | fail)); done))
local macro_rules | `(tactic| walk_at "setat") => `(tactic| ((repeat (first | (with_reducible exact At.head) | (with_reducible apply At.tail) | (with_reducible apply At.app) | fail)); done))
set_option hygiene false in
local macro_rules | `(tactic| walk_at "dv") => `(tactic| ((repeat' (first | exact Dv.nil | exact Dv.of (by walk_at "mem") | exact Dv.ints _ | exact Dv1.of (by walk_at "mem") | exact Dv1.int _ | exact Dv1.non | exact Dv1.bl _ | exact Dv1.str _ | (with_reducible apply Dv.cons) | refine Dv1.tup (by walk_at "mem") ?_ | refine Dv1.lst (by walk_at "mem") ?_ | (with_reducible apply Dv.app) | fail)); done))
local macro_rules | `(tactic| walk_at "ft") => `(tactic| (first | (with_reducible exact Ft.refl) | ((with_reducible apply Ft.toL); focus walk_at "dv") | ((with_reducible apply Ft.toS); focus assumption) | (with_reducible apply Ft.lst) | (with_reducible apply Ft.Le) | (with_reducible apply Ft.dK) | (with_reducible apply Ft.De) | (with_reducible apply Ft.ins) | (with_reducible apply Ft.toL) | (with_reducible apply Ft.toS) | (with_reducible apply Ft.toD) | fail))
local macro_rules | `(tactic| walk_at "sbL") => `(tactic| repeat' (first | (with_reducible exact Sb.refl _) | exact Sb.nil | (with_reducible apply Sb.cons) | (with_reducible apply Sb.app) | (with_reducible exact Pk.one) | (with_reducible exact Pk.here) | (with_reducible exact Pk.all) | (with_reducible apply Pk.skip1) | (with_reducible apply Pk.skipB) | (with_reducible apply Sb.skip) | (with_reducible apply Sb.skipB) | ((with_reducible show Ft _ _ _ _); walk_at "ft") | ((with_reducible show (_ : List _) = _); (first | rfl | (simp [List.map_set, List.map_append]; done) | fail)) | fail))
local macro_rules | `(tactic| walk_at "sb") => `(tactic| ((walk_at "sbL"); done))
local macro_rules | `(tactic| walk_at "ps") => `(tactic| ((repeat' (first | (with_reducible exact Ps.refl) | exact Ps.nil | (with_reducible apply Ps.cons) | exact List.Mem.head _ | apply List.Mem.tail | (with_reducible apply Ps.skip) | fail)); done))
set_option hygiene false in
local macro_rules | `(tactic| walk_at "at") => `(tactic| first | assumption | exact Own.raw hO (by walk_at "mem") | exact Own.ptup hO (by walk_at "mem") | exact Own.plst hO (by walk_at "mem") | fail)
set_option hygiene false in
local macro_rules | `(tactic| walk_at "st") => `(tactic| (rw [upd_mkO hO]; generalize e : updX _ _ _ = H1; (first | ((apply Own.cset hO e); (focus walk_at "setat"); (try clear hO e); intro hO) | ((apply Own.cnewT hO e); (focus assumption); (try clear hO e); intro hO) | ((apply Own.cnew hO e); (focus assumption); (try clear hO e); intro hO) | fail)))
set_option hygiene false in
local macro_rules | `(tactic| walk_at "mk") => `(tactic| (intro p1 p2 f1 f2 f3; rw [upd_mkO hO]; generalize e : upd (updX _ _ _) _ _ = H1; apply Own.cmake hO f1 f2 f3 e; (try clear hO e); intro hO))
set_option hygiene false in
local macro_rules | `(tactic| walk_at "own") => `(tactic| (first | ((apply Own.sub hO); (focus walk_at "sb"); (focus walk_at "ps")) | ((apply Own.sub hF); (focus walk_at "sb"); (focus walk_at "ps")) | fail))
set_option hygiene false in
local macro_rules | `(tactic| walk_at "fin") => `(tactic| (refine Own.sub hO ?_ (by walk_at "ps"); walk_at "sbL"))
set_option hygiene false in
local macro_rules | `(tactic| walk_at "g1") => `(tactic| (first
 | ((with_reducible show (_ : Option HO) = _); walk_at "at")
 | ((with_reducible show (_ : Int) < _); omega) | ((with_reducible show (_ : Int) ≤ _); omega)
 | ((with_reducible show (_ : Nat) < _); (first | assumption | exact Nat.le_of_ble_eq_true rfl | exact size_lt (Nat.le_of_ble_eq_true rfl) | omega | (simp; done) | (simp; omega) | fail))
 | ((with_reducible show (_ : Nat) ≤ _); (first | assumption | exact Nat.le_of_ble_eq_true rfl | exact size_le (Nat.le_of_ble_eq_true rfl) | omega | (simp; done) | (simp; omega) | fail))
 | ((with_reducible show Own _ _ _ _); (first | walk_at "own" | (walk_at "st"; walk_at "own") | fail))
 | ((with_reducible show SqL _ _ _ _); (first | assumption | exact SqL.of (by walk_at "at") | fail))
 | ((with_reducible show SqT _ _ _ _); (first | assumption | exact hO.psq (by walk_at "mem") | exact SqT.of (by walk_at "at") | fail))
  | ((with_reducible show Cls _ _); exact Txt.cl_Queues T) | ((with_reducible show NoAttr _ _ _); exact Txt.n_Queues_load_rooms T) | (with_reducible exact gt_Queues_load_rooms) | ((with_reducible show NoAttr _ _ _); exact Txt.n_Queues_store_rooms T) | (with_reducible exact gt_Queues_store_rooms) | ((with_reducible show NoAttr _ _ _); exact Txt.n_Queues_loads T) | (with_reducible exact gt_Queues_loads) | ((with_reducible show NoAttr _ _ _); exact Txt.n_Queues_stores T) | (with_reducible exact gt_Queues_stores)  | ((with_reducible show V.ref _ = V.ref _); (first | rfl | fail))
 | ((with_reducible show DGet _ _ _ _); (first | exact DGet.ki (by walk_at "at") (by assumption) | exact DGet.kiF (by walk_at "at") (by assumption) | fail))
 | ((with_reducible show DPut _ _ _ _ _); exact DPut.ki (by walk_at "at") (by assumption))
 | ((with_reducible show Rd _ _ _); (first | exact Or.inl (by walk_at "at") | exact Or.inr ⟨_, by walk_at "at"⟩ | fail))
 | ((with_reducible show (∃ _ : List (Key × V), _) ∨ _); refine Or.inl ⟨_, by walk_at "at", ?_⟩)
 | ((with_reducible show Dv _ _ _ _); focus walk_at "dv") | ((with_reducible show Dv1 _ _ _ _); focus walk_at "dv")
 | ((with_reducible show IsD _ _); exact Or.inl ⟨_, Or.inl (by walk_at "at")⟩)
 | ((with_reducible show V.int _ = kV _); exact kV_int)
 | ((with_reducible show Option.isSome _ = true); (first | exact isSome_ofV (by assumption) | assumption | fail))
 | ((with_reducible show SqL _ _ _ _ ∨ SqT _ _ _ _); (first | exact Or.inl (by assumption) | exact Or.inr (by assumption) | exact Or.inl (SqL.of (by walk_at "at")) | exact Or.inr (SqT.of (by walk_at "at")) | fail))
 | ((with_reducible show Dp _ _ _ _); (first | assumption | exact hO.dpL (by walk_at "mem") | exact .lst (SqL.of (by walk_at "at")) (hO.all (by walk_at "dv")) | exact hO.one (by walk_at "dv") | fail))
 | ((with_reducible show TruV _ _ _ _); (first | exact Or.inl ⟨_, SqL.of (by walk_at "at"), rfl⟩ | exact Or.inr (Or.inr ⟨_, by walk_at "at", rfl⟩) | exact Or.inr (Or.inl ⟨_, SqT.of (by walk_at "at"), rfl⟩) | fail))
 | ((with_reducible show RgOk _ _); exact RgOk.of_le (by omega) (by omega) (by omega) (by omega))
 | rfl | (with_reducible assumption) | apply And.intro | apply Exists.intro | refine iteT ?_ | refine iteF ?_
 | (walk_at "st"; (try walk_at "fl"))
 | ((with_reducible show ∀ _ : Addr, _ = none → _); (fail_if_success (with_reducible show ∀ _ : Addr, _ = none → ∃ _ : Nat → Nat → Hp → Prop, _)); intro p fp; walk_at "st")
 | (refine Or.inl ⟨SqL.of (by walk_at "at"), ?_⟩) | (refine Or.inr ⟨SqT.of (by walk_at "at"), ?_⟩) | exact Or.inl ⟨_, by walk_at "at", rfl⟩ | exact Or.inl ⟨rfl, _, SqL.of (by walk_at "at")⟩ | exact tyl_of (by walk_at "at") | exact Or.inl (SqL.of (by walk_at "at")) | exact Or.inr (SqT.of (by walk_at "at")) | exact Or.inl (by walk_at "at") | exact size_le (Nat.le_of_ble_eq_true rfl) | exact Nat.le_of_ble_eq_true rfl | exact True.intro | exact Or.inl rfl | exact Or.inr rfl | (show (_ : Prop); assumption) | (show (_ : Prop); omega) | (show (_ : Prop); dsimp only; omega) | exact mulw64 (by omega) (by omega) | exact mulw64 (by (try dsimp only); omega) (by (try dsimp only); omega) | fail))
local macro_rules | `(tactic| walk_at "go") => `(tactic| repeat walk_at "g1")

section
variable {P : Program} {w : World} {K : PySem.W.Frag} {mg : Str → Option Value} {base : Heap}
theorem iteT' {c : Prop} [Decidable c] {α β : Prop} (h : c) (k : α) : if decide c = true then α else β := by rw [if_pos (decide_eq_true h)]; exact k
def sp_issrc (K : PySem.W.Frag) (C : Addr) : Sp := fun vs H Q _ => ∃ (x dx l s : Addr) (a b v n pl : Int) (ow : Option Int) (ss : List QR) (R : List (Addr × Ob)) (P : List Pf), vs = [.ref x, .int v, .int n, .int pl] ∧ Own K H ((x, .raw (.ins C dx (F_Queues (.int a) (.int b) (.ref l) (.ref s)))) :: (s, .D (ik (qD ss))) :: R) P ∧ 0 ≤ v ∧ v < n ∧ (qkeys ss).Nodup ∧ (v, some pl, ow) ∈ ss ∧ Q (.bl true) H
theorem ok_Queuesis_source (T : Txt K mg) : FnOk P w K mg base CX0 4 T.f_Queuesis_source T.fd_Queuesis_source ["self", "value", "number", "place"] (sp_issrc K T.C_Queues) := by
  have G__is_one_of := ok__is_one_of (P := P) (w := w) (base := base) T
  refine T.F_Queuesis_source.ok sc_Queuesis_source (fun vs H Q E h => ?_) (fun cdv A outer s H vs Q E hr h => ?_)
  · obtain ⟨x, dx, l, s, a, b, v, n, pl, ow, ss, R, P, rfl, hO, hv0, hvn, hnd, hm, k⟩ := h; rfl
  · obtain ⟨x, dx, l, s, a, b, v, n, pl, ow, ss, R, P, rfl, hO, hv0, hvn, hnd, hm, k⟩ := h
    refine ⟨_, (pss_one (ps_ret (pe_and (pe_call G__is_one_of (hr.mono (by decide)) rfl T.g__is_one_of T.F__is_one_of.kp T.b__is_one_of .nil pass0 (pa_cons (pe_fld (pv 0) rfl) (pa_cons (pv 1) pa_nil))) (pe_and (pe_cmpR op_lt (pv 1) (pv 2) (nomark _)) (pe_one (pe_cmpR op_eq (pe_ix ix_tup (pe_dget (hu_of hr) (pe_fld (pv 0) rfl) (pv 1) (fun _ _ => rfl)) pe_int (fun _ _ => rfl)) (pv 3) (nomark _))))))), ?_⟩
    clear G__is_one_of
    clear hr
    have hin : v ∈ (qD ss).map Prod.fst := by rw [qD_keys]; exact List.mem_map.mpr ⟨_, hm, rfl⟩
    have hF := hO
    obtain ⟨ks, hk, o1⟩ := hO.openD (a := s) (by walk_at "mem")
    replace hO := o1 _ (by walk_at "setat")
    clear o1
    have vd : valD (ik (qD ss)) (Sum.inl v) = some (.tuple [.int pl, oD ow]) := find_row hnd hm
    obtain ⟨u, hu⟩ := valV_of hk vd
    have dv := Dv.val (K := K) (P := .dp (ks.map Prod.snd) ((ik (qD ss)).map Prod.snd) :: P) (Dv.of List.mem_cons_self) hk hu vd
    obtain ⟨t, a', b', rfl, hO⟩ := hO.opn2 (x := .int pl) (y := oD ow) dv
    obtain rfl := Dv1.intD (Dv1.of (by walk_at "mem")) hO
    walk_at "go"
    rw [decide_eq_true hin]
    walk_at "go"
    refine iteT' hvn ?_
    walk_at "go"
    exact qbl k (decide_eq_true rfl)
def sp_read (K : PySem.W.Frag) (C : Addr) : Sp := fun vs H Q _ => ∃ (x dx l s : Addr) (a b n pl : Int) (o : Option Int) (ls ss : List QR) (R : List (Addr × Ob)) (P : List Pf), vs = [.ref x, .int n, .int pl, oV o] ∧ Own K H (qu C x dx l s a b ls ss ++ R) P ∧ 0 ≤ n ∧ (0 ≤ pl ∧ pl < 1024) ∧ (qkeys ls).Nodup ∧ (n, none, none) ∈ ls ∧ ls.length ≤ 100 ∧ ss.length ≤ 100 ∧ (qkeys ss).Nodup ∧
  (∀ v, o = some v → 0 ≤ v ∧ v < n ∧ ∃ ow, (v, some pl, ow) ∈ ss) ∧ ∀ (H' : Hp) (P' : List Pf), Ps P P' → Own K H' (qu C x dx l s a b (setW ls n (some pl) o) ss ++ R) P' → Q .non H'
theorem ok_Queues_read (T : Txt K mg) : FnOk P w K mg base CX0 5 T.f_Queues_read T.fd_Queues_read ["self", "number", "place", "source"] (sp_read K T.C_Queues) := by
  have G__need_one_of := ok__need_one_of (P := P) (w := w) (base := base) T
  have G_need_place := ok_need_place (P := P) (w := w) (base := base) T
  have G_Queuesis_source := ok_Queuesis_source (P := P) (w := w) (base := base) T
  refine T.F_Queues_read.ok sc_Queues_read (fun vs H Q E h => ?_) (fun cdv A outer s H vs Q E hr h => ?_)
  · obtain ⟨x, dx, l, s, a, b, n, pl, o, ls, ss, R, P, rfl, hO, hn, hp, hnd, hm, hl1, hs1, hns, hsrc, k⟩ := h; rfl
  · obtain ⟨x, dx, l, s, a, b, n, pl, o, ls, ss, R, P, rfl, hO, hn, hp, hnd, hm, hl1, hs1, hns, hsrc, k⟩ := h
    refine ⟨_, (pss_cons (ps_expr (pe_call G__need_one_of (hr.mono (by decide)) rfl T.g__need_one_of T.F__need_one_of.kp T.b__need_one_of .nil pass0 (pa_cons (pe_fld (pv 0) rfl) (pa_cons (pv 1) pa_nil))))
        (pss_cons (ps_expr (pe_call G_need_place (hr.mono (by decide)) rfl T.g_need_place T.F_need_place.kp T.b_need_place .nil pass0 (pa_cons (pv 2) pa_nil)))
        (pss_cons (ps_if (PW.pt (pw_and (pt_cmpR op_notN (pv 3) pe_non (nomark _)) (pw_and1 (pt_not (pt_val (pe_meth (pv 0) T.cl_Queues T.me_Queuesis_source G_Queuesis_source (hr.mono (by decide)) T.b_Queuesis_source .nil pass0 (pa_cons (pv 3) (pa_cons (pv 1) (pa_cons (pv 2) pa_nil)))))))))
          (pss_one ps_never)
          pss_nil)
        (pss_cons (ps_if (pt_cmpR (op_neD hr.units) (pe_dget (hu_of hr) (pe_fld (pv 0) rfl) (pv 1) (fun _ _ => rfl)) (pe_glob (v := .ref T.aN) rfl T.gN rfl) (nomark _))
          (pss_one ps_never)
          pss_nil)
        (pss_one (ps_dput (hu_of hr) (pe_fld (pv 0) rfl) (pv 1) (pe_tup (pa_cons (pv 2) (pa_cons (pv 3) pa_nil))) rfl)))))), ?_⟩
    clear G__need_one_of G_need_place G_Queuesis_source
    clear hr
    have hin : n ∈ (qD ls).map Prod.fst := by rw [qD_keys]; exact List.mem_map.mpr ⟨_, hm, rfl⟩
    simp only [qu, List.cons_append, List.nil_append] at hO k
    have hF := hO
    obtain ⟨ks, hk2, o2⟩ := hO.openD (a := l) (by walk_at "mem")
    replace hO := o2 _ (by walk_at "setat")
    clear o2
    have hl := ik_len hk2
    rw [qD_len] at hl
    have vd : valD (ik (qD ls)) (Sum.inl n) = some (.tuple [.none, .none]) := find_row hnd hm
    obtain ⟨v, hv⟩ := valV_of hk2 vd
    have dv := Dv.val (K := K) (P := .dp (ks.map Prod.snd) ((ik (qD ls)).map Prod.snd) :: P) (Dv.of List.mem_cons_self) hk2 hv vd
    have hd1 := hO.one dv
    have hd2 := hO.one (dvN T _)
    have s1 := shN
    have szk : ks.length < sizeLine := size_lt (by omega)
    rcases o with _ | o
    · walk_at "go"
      rw [← qD_put (by rwa [qD_keys] at hin)] at k
      refine k _ _ ?_ (Own.sub hO ?_ Ps.refl)
      · walk_at "ps"
      walk_at "sbL"
      · exact putK_fst hk2 _ _ _
      · exact Dv.put (Dv.of (by walk_at "mem")) hk2 (Dv1.tup List.mem_cons_self (Dv.cons (Dv1.int _) (Dv.cons (Dv1.oV _) Dv.nil)))
    · obtain ⟨o0, on, ow, hmo⟩ := hsrc o rfl
      walk_at "go"
      rw [← qD_put (by rwa [qD_keys] at hin)] at k
      refine k _ _ ?_ (Own.sub hO ?_ Ps.refl)
      · walk_at "ps"
      walk_at "sbL"
      · exact putK_fst hk2 _ _ _
      · exact Dv.put (Dv.of (by walk_at "mem")) hk2 (Dv1.tup List.mem_cons_self (Dv.cons (Dv1.int _) (Dv.cons (Dv1.oV _) Dv.nil)))
theorem qD_drop (rs : List QR) (n : Int) : dropD (ik (qD rs)) (Sum.inl n) = ik (qD (rs.filter fun r => decide (r.1 ≠ n))) := by
  rw [ik_drop, qD, List.filter_map]; rfl
theorem drop_not {rs : List QR} {n : Int} (h : n ∉ qkeys rs) : (rs.filter fun r => decide (r.1 ≠ n)) = rs := List.filter_eq_self.mpr fun r hr => decide_eq_true fun e => h (List.mem_map.mpr ⟨r, hr, e⟩)
def sp_leave (K : PySem.W.Frag) (C : Addr) : Sp := fun vs H Q _ => ∃ (x dx l s : Addr) (a b n : Int) (ls ss : List QR) (R : List (Addr × Ob)) (P : List Pf), vs = [.ref x, .int n] ∧ Own K H (qu C x dx l s a b ls ss ++ R) P ∧ 0 ≤ n ∧ n ∈ qkeys ls ++ qkeys ss ∧ (∀ z ∈ qkeys ls ++ qkeys ss, n ≤ z) ∧ (n ∈ qkeys ls → n ∉ qkeys ss) ∧ ls.length ≤ 100 ∧ ss.length ≤ 100 ∧
  ∀ (H' : Hp) (P' : List Pf), Ps P P' → Own K H' (qu C x dx l s a b (ls.filter fun r => decide (r.1 ≠ n)) (ss.filter fun r => decide (r.1 ≠ n)) ++ R) P' → Q .non H'
theorem ok_Queues_leave (T : Txt K mg) : FnOk P w K mg base CX0 5 T.f_Queues_leave T.fd_Queues_leave ["self", "number"] (sp_leave K T.C_Queues) := by
  have G__is_one_of := ok__is_one_of (P := P) (w := w) (base := base) T
  have G__need_one_of := ok__need_one_of (P := P) (w := w) (base := base) T
  have G_Queuesall_numbers := ok_Queuesall_numbers (P := P) (w := w) (base := base) T
  refine T.F_Queues_leave.ok sc_Queues_leave (fun vs H Q E h => ?_) (fun cdv A outer s H vs Q E hr h => ?_)
  · obtain ⟨x, dx, l, s, a, b, n, ls, ss, R, P, rfl, hO, hn, hm, hle, hdis, hl1, hs1, k⟩ := h; rfl
  · obtain ⟨x, dx, l, s, a, b, n, ls, ss, R, P, rfl, hO, hn, hm, hle, hdis, hl1, hs1, k⟩ := h
    refine ⟨_, (pss_cons (ps_set (i := 2) sc_Queues_leave.nd rfl (Or.inl rfl) (pe_ifExp (pt_val (pe_call G__is_one_of (hr.mono (by decide)) rfl T.g__is_one_of T.F__is_one_of.kp T.b__is_one_of .nil pass0 (pa_cons (pe_fld (pv 0) rfl) (pa_cons (pv 1) pa_nil)))) (pe_fld (pv 0) rfl) (pe_fld (pv 0) rfl)))
        (pss_cons (ps_expr (pe_call G__need_one_of (hr.mono (by decide)) rfl T.g__need_one_of T.F__need_one_of.kp T.b__need_one_of .nil pass0 (pa_cons (pv 2) (pa_cons (pv 1) pa_nil))))
        (pss_cons (ps_if (pt_cmpR op_ne (pv 1) (pe_callB (cr_min rfl) (by rfl) T.m_min (by decide +kernel) (pa_cons (pe_meth0 (pv 0) T.cl_Queues T.me_Queuesall_numbers G_Queuesall_numbers (hr.mono (by decide)) T.b_Queuesall_numbers .nil pass0) pa_nil)) (nomark _))
          (pss_one ps_never)
          pss_nil)
        (pss_one (ps_ddel (pv 2) (pv 1)))))), ?_⟩
    clear G__is_one_of G__need_one_of G_Queuesall_numbers
    clear hr
    have hF := hO
    simp only [qu, List.cons_append, List.nil_append] at hO k
    by_cases hL : n ∈ qkeys ls
    · have hin : n ∈ (qD ls).map Prod.fst := by rw [qD_keys]; exact hL
      walk_at "go"
      rw [decide_eq_true hin]
      walk_at "go"
      intro p H2 P2 sp2 hO
      simp only [qu, List.cons_append, List.nil_append] at hO
      clear hF
      obtain ⟨kl, hk, o1⟩ := hO.openD (a := l) (by walk_at "mem")
      replace hO := o1 _ (by walk_at "setat")
      clear o1
      have hpos : 0 < (qkeys ls ++ qkeys ss).length := List.length_pos_of_mem hm
      have his := (ik_isSome hk n).trans (decide_eq_true hin)
      walk_at "go"
      intro m hm1 hm2
      obtain rfl : m = n := Int.le_antisymm (hm2 _ hm) (hle _ hm1)
      walk_at "go"
      rw [decide_eq_true (rfl : V.int m = V.int m)]
      walk_at "go"
      rw [drop_not (hdis hL), ← qD_drop] at k
      refine k _ _ ?_ (Own.sub hO ?_ Ps.refl)
      · exact sp2.trans (Ps.skip Ps.refl)
      walk_at "sbL"
      · exact dropK_fst _ hk
      · exact Dv.drop' (Dv.of (by walk_at "mem")) hk
    · have hin : n ∉ (qD ls).map Prod.fst := by rw [qD_keys]; exact hL
      have hS : n ∈ (qD ss).map Prod.fst := by rw [qD_keys]; exact (List.mem_append.mp hm).resolve_left hL
      walk_at "go"
      rw [decide_eq_false hin]
      walk_at "go"
      intro p H2 P2 sp2 hO
      simp only [qu, List.cons_append, List.nil_append] at hO
      clear hF
      obtain ⟨kl, hk, o1⟩ := hO.openD (a := s) (by walk_at "mem")
      replace hO := o1 _ (by walk_at "setat")
      clear o1
      have hpos : 0 < (qkeys ls ++ qkeys ss).length := List.length_pos_of_mem hm
      have his := (ik_isSome hk n).trans (decide_eq_true hS)
      walk_at "go"
      intro m hm1 hm2
      obtain rfl : m = n := Int.le_antisymm (hm2 _ hm) (hle _ hm1)
      walk_at "go"
      rw [decide_eq_true (rfl : V.int m = V.int m)]
      walk_at "go"
      rw [drop_not hL, ← qD_drop] at k
      refine k _ _ ?_ (Own.sub hO ?_ Ps.refl)
      · exact sp2.trans (Ps.skip Ps.refl)
      walk_at "sbL"
      · exact dropK_fst _ hk
      · exact Dv.drop' (Dv.of (by walk_at "mem")) hk
end
end K77

set_option Elab.async false
set_option linter.all false
set_option maxRecDepth 100000
set_option maxHeartbeats 8000000

namespace K77
open PySem PySem.Spec PyProof.Rows L2 Hx 
local macro_rules | `(tactic| walk_at "sm") => `(tactic| repeat' (first | assumption | apply Hx.Same.upd | exact L2.Same.refl _ | apply same_trans'))
local macro_rules | `(tactic| walk_at "hp") => `(tactic| repeat' (first | assumption | exact upd_same | apply old_upd | apply same_at))
local macro_rules | `(tactic| walk_at "rd") => `(tactic| repeat' (first | rfl | apply Exists.intro | apply And.intro | refine iteT ?_ | refine iteF ?_ | exact upd_same | exact SqL.of (by assumption) | exact SqL.of upd_same | exact SqT.of upd_same | exact SqT.of (by assumption) | ((with_reducible show (_ : Int) < _); omega) | ((with_reducible show (_ : Int) ≤ _); omega) | (show (_ : Prop); assumption) | exact Or.inl ⟨_, by assumption, rfl⟩ | exact Or.inl ⟨rfl, _, SqL.of (by assumption)⟩ | exact Or.inl ⟨rfl, _, SqL.of upd_same⟩ | apply old_upd | apply Hx.SqL.new | apply tyl_new | apply Pot.new | exact same_at (by assumption) (by assumption) | exact Or.inl (SqL.of (by assumption)) | exact Or.inl (by assumption) | exact Or.inl (SqL.of upd_same) | exact size_le (Nat.le_of_ble_eq_true rfl) | exact Nat.le_of_ble_eq_true rfl | exact True.intro | exact Or.inl rfl | exact Or.inr rfl | (show (_ : Prop); omega) | (show (_ : Prop); dsimp only; omega) | exact mulw64 (by omega) (by omega) | exact mulw64 (by (try dsimp only); omega) (by (try dsimp only); omega)))
set_option hygiene false in
local macro_rules | `(tactic| walk_at "fl") => `(tactic| simp only [pu_Queues_load_rooms, pi_Queues_load_rooms, pu_Queues_store_rooms, pi_Queues_store_rooms, pu_Queues_loads, pi_Queues_loads, pu_Queues_stores, pi_Queues_stores] at hO)
local macro_rules | `(tactic| walk_at "mem") => `(tactic| ((repeat (first | exact List.Mem.head _ | apply List.Mem.tail | fail)); done))
local macro_rules | `(tactic| walk_at "setat") => `(tactic| ((repeat (first | (with_reducible exact At.head) | (with_reducible apply At.tail) | (with_reducible apply At.app) | fail)); done))
set_option hygiene false in
local macro_rules | `(tactic| walk_at "dv") => `(tactic| ((repeat' (first | exact Dv.nil | exact Dv.of (by walk_at "mem") | exact Dv.ints _ | exact Dv1.of (by walk_at "mem") | exact Dv1.int _ | exact Dv1.non | exact Dv1.bl _ | exact Dv1.str _ | (with_reducible apply Dv.cons) | refine Dv1.tup (by walk_at "mem") ?_ | refine Dv1.lst (by walk_at "mem") ?_ | (with_reducible apply Dv.app) | fail)); done))
local macro_rules | `(tactic| walk_at "ft") => `(tactic| (first | (with_reducible exact Ft.refl) | ((with_reducible apply Ft.toL); focus walk_at "dv") | ((with_reducible apply Ft.toS); focus assumption) | (with_reducible apply Ft.lst) | (with_reducible apply Ft.Le) | (with_reducible apply Ft.dK) | (with_reducible apply Ft.De) | (with_reducible apply Ft.ins) | (with_reducible apply Ft.toL) | (with_reducible apply Ft.toS) | (with_reducible apply Ft.toD) | fail))
local macro_rules | `(tactic| walk_at "sbL") => `(tactic| repeat' (first | (with_reducible exact Sb.refl _) | exact Sb.nil | (with_reducible apply Sb.cons) | (with_reducible apply Sb.app) | (with_reducible exact Pk.one) | (with_reducible exact Pk.here) | (with_reducible exact Pk.all) | (with_reducible apply Pk.skip1) | (with_reducible apply Pk.skipB) | (with_reducible apply Sb.skip) | (with_reducible apply Sb.skipB) | ((with_reducible show Ft _ _ _ _); walk_at "ft") | ((with_reducible show (_ : List _) = _); (first | rfl | (simp [List.map_set, List.map_append]; done) | fail)) | fail))
local macro_rules | `(tactic| walk_at "sb") => `(tactic| ((walk_at "sbL"); done))
local macro_rules | `(tactic| walk_at "ps") => `(tactic| ((repeat' (first | (with_reducible exact Ps.refl) | exact Ps.nil | (with_reducible apply Ps.cons) | exact List.Mem.head _ | apply List.Mem.tail | (with_reducible apply Ps.skip) | fail)); done))
set_option hygiene false in
local macro_rules | `(tactic| walk_at "at") => `(tactic| first | assumption | exact Own.raw hO (by walk_at "mem") | exact Own.ptup hO (by walk_at "mem") | exact Own.plst hO (by walk_at "mem") | fail)
set_option hygiene false in
local macro_rules | `(tactic| walk_at "st") => `(tactic| (rw [upd_mkO hO]; generalize e : updX _ _ _ = H1; (first | ((apply Own.cset hO e); (focus walk_at "setat"); (try clear hO e); intro hO) | ((apply Own.cnewT hO e); (focus assumption); (try clear hO e); intro hO) | ((apply Own.cnew hO e); (focus assumption); (try clear hO e); intro hO) | fail)))
set_option hygiene false in
local macro_rules | `(tactic| walk_at "mk") => `(tactic| (intro p1 p2 f1 f2 f3; rw [upd_mkO hO]; generalize e : upd (updX _ _ _) _ _ = H1; apply Own.cmake hO f1 f2 f3 e; (try clear hO e); intro hO))
set_option hygiene false in
local macro_rules | `(tactic| walk_at "own") => `(tactic| (first | ((apply Own.sub hO); (focus walk_at "sb"); (focus walk_at "ps")) | ((apply Own.sub hF); (focus walk_at "sb"); (focus walk_at "ps")) | fail))
set_option hygiene false in
local macro_rules | `(tactic| walk_at "fin") => `(tactic| (refine Own.sub hO ?_ (by walk_at "ps"); walk_at "sbL"))
set_option hygiene false in
local macro_rules | `(tactic| walk_at "g1") => `(tactic| (first
 | ((with_reducible show (_ : Option HO) = _); walk_at "at")
 | ((with_reducible show (_ : Int) < _); omega) | ((with_reducible show (_ : Int) ≤ _); omega)
 | ((with_reducible show (_ : Nat) < _); (first | assumption | exact Nat.le_of_ble_eq_true rfl | exact size_lt (Nat.le_of_ble_eq_true rfl) | omega | (simp; done) | (simp; omega) | fail))
 | ((with_reducible show (_ : Nat) ≤ _); (first | assumption | exact Nat.le_of_ble_eq_true rfl | exact size_le (Nat.le_of_ble_eq_true rfl) | omega | (simp; done) | (simp; omega) | fail))
 | ((with_reducible show Own _ _ _ _); (first | walk_at "own" | (walk_at "st"; walk_at "own") | fail))
 | ((with_reducible show SqL _ _ _ _); (first | assumption | exact SqL.of (by walk_at "at") | fail))
 | ((with_reducible show SqT _ _ _ _); (first | assumption | exact hO.psq (by walk_at "mem") | exact SqT.of (by walk_at "at") | fail))
  | ((with_reducible show Cls _ _); exact Txt.cl_Queues T) | ((with_reducible show NoAttr _ _ _); exact Txt.n_Queues_load_rooms T) | (with_reducible exact gt_Queues_load_rooms) | ((with_reducible show NoAttr _ _ _); exact Txt.n_Queues_store_rooms T) | (with_reducible exact gt_Queues_store_rooms) | ((with_reducible show NoAttr _ _ _); exact Txt.n_Queues_loads T) | (with_reducible exact gt_Queues_loads) | ((with_reducible show NoAttr _ _ _); exact Txt.n_Queues_stores T) | (with_reducible exact gt_Queues_stores)  | ((with_reducible show V.ref _ = V.ref _); (first | rfl | fail))
 | ((with_reducible show DGet _ _ _ _); (first | exact DGet.ki (by walk_at "at") (by assumption) | exact DGet.kiF (by walk_at "at") (by assumption) | fail))
 | ((with_reducible show DPut _ _ _ _ _); exact DPut.ki (by walk_at "at") (by assumption))
 | ((with_reducible show Rd _ _ _); (first | exact Or.inl (by walk_at "at") | exact Or.inr ⟨_, by walk_at "at"⟩ | fail))
 | ((with_reducible show (∃ _ : List (Key × V), _) ∨ _); refine Or.inl ⟨_, by walk_at "at", ?_⟩)
 | ((with_reducible show Dv _ _ _ _); focus walk_at "dv") | ((with_reducible show Dv1 _ _ _ _); focus walk_at "dv")
 | ((with_reducible show IsD _ _); exact Or.inl ⟨_, Or.inl (by walk_at "at")⟩)
 | ((with_reducible show V.int _ = kV _); exact kV_int)
 | ((with_reducible show Option.isSome _ = true); (first | exact isSome_ofV (by assumption) | assumption | fail))
 | ((with_reducible show SqL _ _ _ _ ∨ SqT _ _ _ _); (first | exact Or.inl (by assumption) | exact Or.inr (by assumption) | exact Or.inl (SqL.of (by walk_at "at")) | exact Or.inr (SqT.of (by walk_at "at")) | fail))
 | ((with_reducible show Dp _ _ _ _); (first | assumption | exact hO.dpL (by walk_at "mem") | exact .lst (SqL.of (by walk_at "at")) (hO.all (by walk_at "dv")) | exact hO.one (by walk_at "dv") | fail))
 | ((with_reducible show TruV _ _ _ _); (first | exact Or.inl ⟨_, SqL.of (by walk_at "at"), rfl⟩ | exact Or.inr (Or.inr ⟨_, by walk_at "at", rfl⟩) | exact Or.inr (Or.inl ⟨_, SqT.of (by walk_at "at"), rfl⟩) | fail))
 | ((with_reducible show RgOk _ _); exact RgOk.of_le (by omega) (by omega) (by omega) (by omega))
 | rfl | (with_reducible assumption) | apply And.intro | apply Exists.intro | refine iteT ?_ | refine iteF ?_
 | (walk_at "st"; (try walk_at "fl"))
 | ((with_reducible show ∀ _ : Addr, _ = none → _); (fail_if_success (with_reducible show ∀ _ : Addr, _ = none → ∃ _ : Nat → Nat → Hp → Prop, _)); intro p fp; walk_at "st")
 | (refine Or.inl ⟨SqL.of (by walk_at "at"), ?_⟩) | (refine Or.inr ⟨SqT.of (by walk_at "at"), ?_⟩) | exact Or.inl ⟨_, by walk_at "at", rfl⟩ | exact Or.inl ⟨rfl, _, SqL.of (by walk_at "at")⟩ | exact tyl_of (by walk_at "at") | exact Or.inl (SqL.of (by walk_at "at")) | exact Or.inr (SqT.of (by walk_at "at")) | exact Or.inl (by walk_at "at") | exact size_le (Nat.le_of_ble_eq_true rfl) | exact Nat.le_of_ble_eq_true rfl | exact True.intro | exact Or.inl rfl | exact Or.inr rfl | (show (_ : Prop); assumption) | (show (_ : Prop); omega) | (show (_ : Prop); dsimp only; omega) | exact mulw64 (by omega) (by omega) | exact mulw64 (by (try dsimp only); omega) (by (try dsimp only); omega) | fail))
local macro_rules | `(tactic| walk_at "go") => `(tactic| repeat walk_at "g1")

section
variable {P : Program} {w : World} {K : PySem.W.Frag} {mg : Str → Option Value} {base : Heap}
theorem ik_qD (rs : List QR) : ik (qD rs) = rs.map fun r => (Sum.inl r.1, PyData.tuple [oD r.2.1, oD r.2.2]) := by rw [ik, qD, List.map_map]; rfl
def sp_dropped (K : PySem.W.Frag) (C : Addr) : Sp := fun vs H Q _ => ∃ (x dx l s : Addr) (a b n : Int) (ls ss : List QR) (R : List (Addr × Ob)) (P : List Pf), vs = [.ref x, .int n] ∧ Own K H (qu C x dx l s a b ls ss ++ R) P ∧ 0 ≤ n ∧ (qkeys ls).Nodup ∧ (qkeys ss).Nodup ∧ ls.length ≤ 100 ∧ ss.length ≤ 100 ∧
  ∀ (l' s' : Addr) (H' : Hp) (P' : List Pf), Ps P P' → Own K H' (qu C x dx l' s' a b (ls.filter fun r => decide (r.1 < n)) (ss.filter fun r => decide (r.1 < n)) ++ R) P' → Q .non H'
theorem ok_Queues_dropped (T : Txt K mg) : FnOk P w K mg base CX0 4 T.f_Queues_dropped T.fd_Queues_dropped ["self", "number"] (sp_dropped K T.C_Queues) := by
  have G_need_number := ok_need_number (P := P) (w := w) (base := base) T
  refine T.F_Queues_dropped.ok sc_Queues_dropped (fun vs H Q E h => ?_) (fun cdv A outer s H vs Q E hr h => ?_)
  · obtain ⟨x, dx, l, s, a, b, n, ls, ss, R, P, rfl, hO, hn, hnl, hns, hl1, hs1, k⟩ := h; rfl
  · obtain ⟨x, dx, l, s, a, b, n, ls, ss, R, P, rfl, hO, hn, hnl, hns, hl1, hs1, k⟩ := h
    refine ⟨_, (pss_cons (ps_expr (pe_call G_need_number (hr.mono (by decide)) rfl T.g_need_number T.F_need_number.kp T.b_need_number .nil pass0 (pa_cons (pv 1) pa_nil)))
        (pss_cons (ps_fld (pv 0) (pe_lockS (pe_dc (own := [("one", 2), ("kept", 3)]) (g := gTup _ 2 (gCons (gName 2) (gCons (gName 3) gNil)))  rfl sc_Queues_dropped.nd (pi_items (pe_fld (pv 0) rfl)) (blkOk_by (N := ["self", "number", "one", "kept"]) (sc := defScope s_Queues_dropped) (by decide +kernel)) (fun _ _ _ _ _ => pg_pair (i := 2) (j := 3) rfl sc_Queues_dropped.nd rfl rfl (Or.inl rfl) (Or.inl rfl)) (fun _ _ _ _ _ => pts_one (pt_cmpR op_lt (pv 2) (pv 1) (nomark _))) (fun _ _ _ _ _ => (pv 2)) (fun _ _ _ _ _ => (pv 3)))) rfl)
        (pss_one (ps_fld (pv 0) (pe_lockS (pe_dc (own := [("one", 2), ("kept", 3)]) (g := gTup _ 2 (gCons (gName 2) (gCons (gName 3) gNil)))  rfl sc_Queues_dropped.nd (pi_items (pe_fld (pv 0) rfl)) (blkOk_by (N := ["self", "number", "one", "kept"]) (sc := defScope s_Queues_dropped) (by decide +kernel)) (fun _ _ _ _ _ => pg_pair (i := 2) (j := 3) rfl sc_Queues_dropped.nd rfl rfl (Or.inl rfl) (Or.inl rfl)) (fun _ _ _ _ _ => pts_one (pt_cmpR op_lt (pv 2) (pv 1) (nomark _))) (fun _ _ _ _ _ => (pv 2)) (fun _ _ _ _ _ => (pv 3)))) rfl)))), ?_⟩
    clear G_need_number
    clear hr
    simp only [qu, List.cons_append, List.nil_append] at hO k
    obtain ⟨kl, hk, o1⟩ := hO.openD (a := l) (by walk_at "mem")
    replace hO := o1 _ (by walk_at "setat")
    clear o1
    have hll := ik_len hk
    rw [qD_len] at hll
    walk_at "go"
    refine hO.lockE (d := l) (u := .dK kl) (by walk_at "mem") trivial fun od H2 o2 => ?_
    replace hO := o2 _ (by walk_at "setat")
    clear o2
    walk_at "go"
    intro D hD
    refine dc_siftW ls (fun r => r.1) (fun r => .tuple [oD r.2.1, oD r.2.2]) (fun r => decide (r.1 < n)) hnl (by rw [← hll]; exact walk_items) hO hD (by omega) (fun H L' P' s t h => h.raw (s _ (by walk_at "mem"))) (fun i z x H9 H' P' kds Qn Qy hz2 hY sp hO kn ky => ?_) (fun H5 P5 sp5 hO => ?_)
    · obtain ⟨t0, kx, vx, rfl, hT, rfl, e1, e2⟩ := hY
      obtain ⟨kv, ekv, rfl⟩ := Option.map_eq_some_iff.mp e1
      obtain rfl : kv.2 = vx := by
        have e2' : kl[i]?.map Prod.snd = some vx := e2
        rw [ekv] at e2'
        exact Option.some.inj e2'
      obtain ⟨r, er, ek⟩ := ik_get hk (k := kv.1) (v := kv.2) ekv
      rw [qD, List.getElem?_map] at er
      rw [hz2] at er
      obtain rfl := Option.some.inj er
      rw [ek]
      have dv : Dv1 K P' kv.2 (.tuple [oD z.2.1, oD z.2.2]) := Dv.get (vs := kl.map Prod.snd) (ds := (ik (qD ls)).map Prod.snd) (Dv.of (sp _ List.mem_cons_self)) (by rw [List.getElem?_map, ekv]; rfl) (i := i) (by simp [ik, qD, hz2])
      replace hO := hO.newT (vs := [.int z.1, kv.2]) hT rfl
      walk_at "go"
      refine iteD (fun h => ?_) (fun h => ?_)
      · walk_at "go"
        exact ky (decide_eq_true h) _ _ _ (by walk_at "ps") hO (dv.mono (by walk_at "ps"))
      · walk_at "go"
        exact kn (decide_eq_false h) _ _ (by walk_at "ps") hO
    · walk_at "go"
      obtain ⟨ks, hk2, o2⟩ := hO.openD (a := s) (by walk_at "mem")
      replace hO := o2 _ (by walk_at "setat")
      clear o2
      have hll2 := ik_len hk2
      rw [qD_len] at hll2
      walk_at "go"
      refine hO.lockE (d := s) (u := .dK ks) (by walk_at "mem") trivial fun od2 H6 o2 => ?_
      replace hO := o2 _ (by walk_at "setat")
      clear o2
      walk_at "go"
      intro D2 hD2
      refine dc_siftW ss (fun r => r.1) (fun r => .tuple [oD r.2.1, oD r.2.2]) (fun r => decide (r.1 < n)) hns (by rw [← hll2]; exact walk_items) hO hD2 (by omega) (fun H L' P' s t h => h.raw (s _ (by walk_at "mem"))) (fun i z x H9 H' P' kds Qn Qy hz2 hY sp hO kn ky => ?_) (fun H6 P6 sp6 hO => ?_)
      · obtain ⟨t0, kx, vx, rfl, hT, rfl, e1, e2⟩ := hY
        obtain ⟨kv, ekv, rfl⟩ := Option.map_eq_some_iff.mp e1
        obtain rfl : kv.2 = vx := by
          have e2' : ks[i]?.map Prod.snd = some vx := e2
          rw [ekv] at e2'
          exact Option.some.inj e2'
        obtain ⟨r, er, ek⟩ := ik_get hk2 (k := kv.1) (v := kv.2) ekv
        rw [qD, List.getElem?_map] at er
        rw [hz2] at er
        obtain rfl := Option.some.inj er
        rw [ek]
        have dv : Dv1 K P' kv.2 (.tuple [oD z.2.1, oD z.2.2]) := Dv.get (vs := ks.map Prod.snd) (ds := (ik (qD ss)).map Prod.snd) (Dv.of (sp _ List.mem_cons_self)) (by rw [List.getElem?_map, ekv]; rfl) (i := i) (by simp [ik, qD, hz2])
        replace hO := hO.newT (vs := [.int z.1, kv.2]) hT rfl
        walk_at "go"
        refine iteD (fun h => ?_) (fun h => ?_)
        · walk_at "go"
          exact ky (decide_eq_true h) _ _ _ (by walk_at "ps") hO (dv.mono (by walk_at "ps"))
        · walk_at "go"
          exact kn (decide_eq_false h) _ _ (by walk_at "ps") hO
      · walk_at "go"
        rw [ik_qD, ik_qD] at k
        refine k D D2 _ P6 ((Ps.skip Ps.refl).trans (sp5.trans ((Ps.skip Ps.refl).trans sp6))) ?_
        walk_at "fin"
def sp_loads (K : PySem.W.Frag) (C : Addr) : Sp := fun vs H Q _ => ∃ (x dx l s : Addr) (a b : Int) (ls ss : List QR) (R : List (Addr × Ob)) (P : List Pf), vs = [.ref x] ∧ Own K H (qu C x dx l s a b ls ss ++ R) P ∧ ls.length ≤ 100 ∧
  ∀ (p : Addr) (H' : Hp) (P' : List Pf), Ps P P' → Own K H' ((p, .L (ls.map rD)) :: (qu C x dx l s a b ls ss ++ R)) P' → Q (.ref p) H'
theorem ok_Queues_loads (T : Txt K mg) : FnOk P w K mg base CX0 1 T.f_Queues_loads T.fd_Queues_loads ["self"] (sp_loads K T.C_Queues) := by
  refine T.F_Queues_loads.ok sc_Queues_loads (fun vs H Q E h => ?_) (fun cdv A outer s H vs Q E hr h => ?_)
  · obtain ⟨x, dx, l, s, a, b, ls, ss, R, P, rfl, hO, hl1, k⟩ := h; rfl
  · obtain ⟨x, dx, l, s, a, b, ls, ss, R, P, rfl, hO, hl1, k⟩ := h
    refine ⟨_, (pss_one (ps_ret (pe_lockS (pe_lc (own := [("number", 1), ("place", 2), ("source", 3)]) (g := gTup _ 2 (gCons (gName 1) (gCons (gTup _ 2 (gCons (gName 2) (gCons (gName 3) gNil))) gNil))) (tt := tYes) rfl sc_Queues_loads.nd (pi_items (pe_fld (pv 0) rfl)) (blkOk_by (N := ["self", "number", "place", "source"]) (sc := defScope s_Queues_loads) (by decide +kernel)) (fun _ _ _ _ _ => pg_pairN (i := 1) (j := 2) (l := 3) rfl sc_Queues_loads.nd rfl rfl rfl (Or.inl rfl) (Or.inl rfl) (Or.inl rfl)) (fun _ _ _ _ _ => pts_nil) (fun _ _ _ _ _ => (pe_tup (pa_cons (pv 1) (pa_cons (pv 2) (pa_cons (pv 3) pa_nil))))))))), ?_⟩
    clear hr
    simp only [qu, List.cons_append, List.nil_append] at hO k
    obtain ⟨kl, hk, o1⟩ := hO.openD (a := l) (by walk_at "mem")
    replace hO := o1 _ (by walk_at "setat")
    clear o1
    have hll := ik_len hk
    rw [qD_len] at hll
    walk_at "go"
    refine hO.lockE (d := l) (u := .dK kl) (by walk_at "mem") trivial fun od H2 o2 => ?_
    replace hO := o2 _ (by walk_at "setat")
    clear o2
    walk_at "go"
    intro D hD
    refine lc_ownW (walk_items (kvs := kl)) (ls.map rD) hO hD (by rw [List.length_map]; exact hll) (by omega) (fun H L' P' s t h => h.raw (s _ (by walk_at "mem"))) (fun i v d H9 H' P' Qz hi hY hd sp hO kq => ?_) (fun H5 P5 sp5 hO => ?_)
    · obtain ⟨t0, kx, vx, rfl, hT, rfl, e1, e2⟩ := hY
      obtain ⟨kv, ekv, rfl⟩ := Option.map_eq_some_iff.mp e1
      obtain rfl : kv.2 = vx := by
        have e2' : kl[i]?.map Prod.snd = some vx := e2
        rw [ekv] at e2'
        exact Option.some.inj e2'
      obtain ⟨r, er, ek⟩ := ik_get hk (k := kv.1) (v := kv.2) ekv
      rw [qD, List.getElem?_map] at er
      obtain ⟨q, hq, rfl⟩ := Option.map_eq_some_iff.mp er
      rw [List.getElem?_map, hq] at hd
      obtain rfl := Option.some.inj hd
      rw [ek]
      replace hO := hO.newT (vs := [.int q.1, kv.2]) hT rfl
      obtain ⟨t, a', b', ev, hO⟩ := hO.opn2 (x := oD q.2.1) (y := oD q.2.2) (Dv.get (vs := kl.map Prod.snd) (ds := (ik (qD ls)).map Prod.snd) (Dv.of (List.mem_cons_of_mem _ (sp _ List.mem_cons_self))) (by rw [List.getElem?_map, ekv]; rfl) (i := i) (by simp [ik, qD, hq]))
      obtain rfl : a' = oV q.2.1 := Dv1.opt (Dv1.of (by walk_at "mem")) hO
      obtain rfl : b' = oV q.2.2 := Dv1.opt (Dv1.of (by walk_at "mem")) hO
      rw [ev] at hO ⊢
      have sq4 := (Ps.skip (q := Pf.sq t [oV q.2.1, oV q.2.2]) (Ps.skip (q := Pf.dp [oV q.2.1] [oD q.2.1]) (Ps.skip (q := Pf.dp [oV q.2.2] [oD q.2.2]) (Ps.skip (q := Pf.tup t0 [.int q.1, .ref t]) (Ps.refl (P := P'))))))
      dsimp only at hO ⊢
      rw [show kV (Sum.inl q.1) = V.int q.1 from rfl]
      generalize upd H9 t0 (.tup [.int q.1, .ref t]) = H3 at hO ⊢
      walk_at "go"
      exact kq _ _ _ (by walk_at "ps") hO (Dv1.tup List.mem_cons_self (Dv.cons (Dv1.int _) (Dv.cons (Dv1.oV _) (Dv.cons (Dv1.oV _) Dv.nil))))
    · walk_at "go"
      refine k D _ P5 ((Ps.skip Ps.refl).trans sp5) ?_
      walk_at "fin"
      · exact hk
      · exact Dv.of (sp5 _ List.mem_cons_self)
def sp_stores (K : PySem.W.Frag) (C : Addr) : Sp := fun vs H Q _ => ∃ (x dx l s : Addr) (a b : Int) (ls ss : List QR) (R : List (Addr × Ob)) (P : List Pf), vs = [.ref x] ∧ Own K H (qu C x dx l s a b ls ss ++ R) P ∧ ss.length ≤ 100 ∧
  ∀ (p : Addr) (H' : Hp) (P' : List Pf), Ps P P' → Own K H' ((p, .L (ss.map rD)) :: (qu C x dx l s a b ls ss ++ R)) P' → Q (.ref p) H'
theorem ok_Queues_stores (T : Txt K mg) : FnOk P w K mg base CX0 1 T.f_Queues_stores T.fd_Queues_stores ["self"] (sp_stores K T.C_Queues) := by
  refine T.F_Queues_stores.ok sc_Queues_stores (fun vs H Q E h => ?_) (fun cdv A outer s H vs Q E hr h => ?_)
  · obtain ⟨x, dx, l, s, a, b, ls, ss, R, P, rfl, hO, hl1, k⟩ := h; rfl
  · obtain ⟨x, dx, l, s, a, b, ls, ss, R, P, rfl, hO, hl1, k⟩ := h
    refine ⟨_, (pss_one (ps_ret (pe_lockS (pe_lc (own := [("number", 1), ("place", 2), ("word", 3)]) (g := gTup _ 2 (gCons (gName 1) (gCons (gTup _ 2 (gCons (gName 2) (gCons (gName 3) gNil))) gNil))) (tt := tYes) rfl sc_Queues_stores.nd (pi_items (pe_fld (pv 0) rfl)) (blkOk_by (N := ["self", "number", "place", "word"]) (sc := defScope s_Queues_stores) (by decide +kernel)) (fun _ _ _ _ _ => pg_pairN (i := 1) (j := 2) (l := 3) rfl sc_Queues_stores.nd rfl rfl rfl (Or.inl rfl) (Or.inl rfl) (Or.inl rfl)) (fun _ _ _ _ _ => pts_nil) (fun _ _ _ _ _ => (pe_tup (pa_cons (pv 1) (pa_cons (pv 2) (pa_cons (pv 3) pa_nil))))))))), ?_⟩
    clear hr
    simp only [qu, List.cons_append, List.nil_append] at hO k
    obtain ⟨kl, hk, o1⟩ := hO.openD (a := s) (by walk_at "mem")
    replace hO := o1 _ (by walk_at "setat")
    clear o1
    have hll := ik_len hk
    rw [qD_len] at hll
    walk_at "go"
    refine hO.lockE (d := s) (u := .dK kl) (by walk_at "mem") trivial fun od H2 o2 => ?_
    replace hO := o2 _ (by walk_at "setat")
    clear o2
    walk_at "go"
    intro D hD
    refine lc_ownW (walk_items (kvs := kl)) (ss.map rD) hO hD (by rw [List.length_map]; exact hll) (by omega) (fun H L' P' s t h => h.raw (s _ (by walk_at "mem"))) (fun i v d H9 H' P' Qz hi hY hd sp hO kq => ?_) (fun H5 P5 sp5 hO => ?_)
    · obtain ⟨t0, kx, vx, rfl, hT, rfl, e1, e2⟩ := hY
      obtain ⟨kv, ekv, rfl⟩ := Option.map_eq_some_iff.mp e1
      obtain rfl : kv.2 = vx := by
        have e2' : kl[i]?.map Prod.snd = some vx := e2
        rw [ekv] at e2'
        exact Option.some.inj e2'
      obtain ⟨r, er, ek⟩ := ik_get hk (k := kv.1) (v := kv.2) ekv
      rw [qD, List.getElem?_map] at er
      obtain ⟨q, hq, rfl⟩ := Option.map_eq_some_iff.mp er
      rw [List.getElem?_map, hq] at hd
      obtain rfl := Option.some.inj hd
      rw [ek]
      replace hO := hO.newT (vs := [.int q.1, kv.2]) hT rfl
      obtain ⟨t, a', b', ev, hO⟩ := hO.opn2 (x := oD q.2.1) (y := oD q.2.2) (Dv.get (vs := kl.map Prod.snd) (ds := (ik (qD ss)).map Prod.snd) (Dv.of (List.mem_cons_of_mem _ (sp _ List.mem_cons_self))) (by rw [List.getElem?_map, ekv]; rfl) (i := i) (by simp [ik, qD, hq]))
      obtain rfl : a' = oV q.2.1 := Dv1.opt (Dv1.of (by walk_at "mem")) hO
      obtain rfl : b' = oV q.2.2 := Dv1.opt (Dv1.of (by walk_at "mem")) hO
      rw [ev] at hO ⊢
      have sq4 := (Ps.skip (q := Pf.sq t [oV q.2.1, oV q.2.2]) (Ps.skip (q := Pf.dp [oV q.2.1] [oD q.2.1]) (Ps.skip (q := Pf.dp [oV q.2.2] [oD q.2.2]) (Ps.skip (q := Pf.tup t0 [.int q.1, .ref t]) (Ps.refl (P := P'))))))
      dsimp only at hO ⊢
      rw [show kV (Sum.inl q.1) = V.int q.1 from rfl]
      generalize upd H9 t0 (.tup [.int q.1, .ref t]) = H3 at hO ⊢
      walk_at "go"
      exact kq _ _ _ (by walk_at "ps") hO (Dv1.tup List.mem_cons_self (Dv.cons (Dv1.int _) (Dv.cons (Dv1.oV _) (Dv.cons (Dv1.oV _) Dv.nil))))
    · walk_at "go"
      refine k D _ P5 ((Ps.skip Ps.refl).trans sp5) ?_
      walk_at "fin"
      · exact hk
      · exact Dv.of (sp5 _ List.mem_cons_self)
end
end K77

set_option Elab.async false
set_option linter.all false
set_option maxRecDepth 100000
set_option maxHeartbeats 8000000

namespace K77
open PySem PySem.Spec PyProof.Rows L2 Hx 
local macro_rules | `(tactic| walk_at "sm") => `(tactic| repeat' (first | assumption | apply Hx.Same.upd | exact L2.Same.refl _ | apply same_trans'))
local macro_rules | `(tactic| walk_at "hp") => `(tactic| repeat' (first | assumption | exact upd_same | apply old_upd | apply same_at))
local macro_rules | `(tactic| walk_at "rd") => `(tactic| repeat' (first | rfl | apply Exists.intro | apply And.intro | refine iteT ?_ | refine iteF ?_ | exact upd_same | exact SqL.of (by assumption) | exact SqL.of upd_same | exact SqT.of upd_same | exact SqT.of (by assumption) | ((with_reducible show (_ : Int) < _); omega) | ((with_reducible show (_ : Int) ≤ _); omega) | (show (_ : Prop); assumption) | exact Or.inl ⟨_, by assumption, rfl⟩ | exact Or.inl ⟨rfl, _, SqL.of (by assumption)⟩ | exact Or.inl ⟨rfl, _, SqL.of upd_same⟩ | apply old_upd | apply Hx.SqL.new | apply tyl_new | apply Pot.new | exact same_at (by assumption) (by assumption) | exact Or.inl (SqL.of (by assumption)) | exact Or.inl (by assumption) | exact Or.inl (SqL.of upd_same) | exact size_le (Nat.le_of_ble_eq_true rfl) | exact Nat.le_of_ble_eq_true rfl | exact True.intro | exact Or.inl rfl | exact Or.inr rfl | (show (_ : Prop); omega) | (show (_ : Prop); dsimp only; omega) | exact mulw64 (by omega) (by omega) | exact mulw64 (by (try dsimp only); omega) (by (try dsimp only); omega)))
set_option hygiene false in
local macro_rules | `(tactic| walk_at "fl") => `(tactic| simp only [pu_Queues_load_rooms, pi_Queues_load_rooms, pu_Queues_store_rooms, pi_Queues_store_rooms, pu_Queues_loads, pi_Queues_loads, pu_Queues_stores, pi_Queues_stores] at hO)
local macro_rules | `(tactic| walk_at "mem") => `(tactic| ((repeat (first | exact List.Mem.head _ | apply List.Mem.tail | fail)); done))
local macro_rules | `(tactic| walk_at "setat") => `(tactic| ((repeat (first | (with_reducible exact At.head) | (with_reducible apply At.tail) | (with_reducible apply At.app) | fail)); done))
set_option hygiene false in
local macro_rules | `(tactic| walk_at "dv") => `(tactic| ((repeat' (first | exact Dv.nil | exact Dv.of (by walk_at "mem") | exact Dv.ints _ | exact Dv1.of (by walk_at "mem") | exact Dv1.int _ | exact Dv1.non | exact Dv1.bl _ | exact Dv1.str _ | (with_reducible apply Dv.cons) | refine Dv1.tup (by walk_at "mem") ?_ | refine Dv1.lst (by walk_at "mem") ?_ | (with_reducible apply Dv.app) | fail)); done))
local macro_rules | `(tactic| walk_at "ft") => `(tactic| (first | (with_reducible exact Ft.refl) | ((with_reducible apply Ft.toL); focus walk_at "dv") | ((with_reducible apply Ft.toS); focus assumption) | (with_reducible apply Ft.lst) | (with_reducible apply Ft.Le) | (with_reducible apply Ft.dK) | (with_reducible apply Ft.De) | (with_reducible apply Ft.ins) | (with_reducible apply Ft.toL) | (with_reducible apply Ft.toS) | (with_reducible apply Ft.toD) | fail))
local macro_rules | `(tactic| walk_at "sbL") => `(tactic| repeat' (first | (with_reducible exact Sb.refl _) | exact Sb.nil | (with_reducible apply Sb.cons) | (with_reducible apply Sb.app) | (with_reducible exact Pk.one) | (with_reducible exact Pk.here) | (with_reducible exact Pk.all) | (with_reducible apply Pk.skip1) | (with_reducible apply Pk.skipB) | (with_reducible apply Sb.skip) | (with_reducible apply Sb.skipB) | ((with_reducible show Ft _ _ _ _); walk_at "ft") | ((with_reducible show (_ : List _) = _); (first | rfl | (simp [List.map_set, List.map_append]; done) | fail)) | fail))
local macro_rules | `(tactic| walk_at "sb") => `(tactic| ((walk_at "sbL"); done))
local macro_rules | `(tactic| walk_at "ps") => `(tactic| ((repeat' (first | (with_reducible exact Ps.refl) | exact Ps.nil | (with_reducible apply Ps.cons) | exact List.Mem.head _ | apply List.Mem.tail | (with_reducible apply Ps.skip) | fail)); done))
set_option hygiene false in
local macro_rules | `(tactic| walk_at "at") => `(tactic| first | assumption | exact Own.raw hO (by walk_at "mem") | exact Own.ptup hO (by walk_at "mem") | exact Own.plst hO (by walk_at "mem") | fail)
set_option hygiene false in
local macro_rules | `(tactic| walk_at "st") => `(tactic| (rw [upd_mkO hO]; generalize e : updX _ _ _ = H1; (first | ((apply Own.cset hO e); (focus walk_at "setat"); (try clear hO e); intro hO) | ((apply Own.cnewT hO e); (focus assumption); (try clear hO e); intro hO) | ((apply Own.cnew hO e); (focus assumption); (try clear hO e); intro hO) | fail)))
set_option hygiene false in
local macro_rules | `(tactic| walk_at "mk") => `(tactic| (intro p1 p2 f1 f2 f3; rw [upd_mkO hO]; generalize e : upd (updX _ _ _) _ _ = H1; apply Own.cmake hO f1 f2 f3 e; (try clear hO e); intro hO))
set_option hygiene false in
local macro_rules | `(tactic| walk_at "own") => `(tactic| (first | ((apply Own.sub hO); (focus walk_at "sb"); (focus walk_at "ps")) | ((apply Own.sub hF); (focus walk_at "sb"); (focus walk_at "ps")) | fail))
set_option hygiene false in
local macro_rules | `(tactic| walk_at "fin") => `(tactic| (refine Own.sub hO ?_ (by walk_at "ps"); walk_at "sbL"))
set_option hygiene false in
local macro_rules | `(tactic| walk_at "g1") => `(tactic| (first
 | ((with_reducible show (_ : Option HO) = _); walk_at "at")
 | ((with_reducible show (_ : Int) < _); omega) | ((with_reducible show (_ : Int) ≤ _); omega)
 | ((with_reducible show (_ : Nat) < _); (first | assumption | exact Nat.le_of_ble_eq_true rfl | exact size_lt (Nat.le_of_ble_eq_true rfl) | omega | (simp; done) | (simp; omega) | fail))
 | ((with_reducible show (_ : Nat) ≤ _); (first | assumption | exact Nat.le_of_ble_eq_true rfl | exact size_le (Nat.le_of_ble_eq_true rfl) | omega | (simp; done) | (simp; omega) | fail))
 | ((with_reducible show Own _ _ _ _); (first | walk_at "own" | (walk_at "st"; walk_at "own") | fail))
 | ((with_reducible show SqL _ _ _ _); (first | assumption | exact SqL.of (by walk_at "at") | fail))
 | ((with_reducible show SqT _ _ _ _); (first | assumption | exact hO.psq (by walk_at "mem") | exact SqT.of (by walk_at "at") | fail))
  | ((with_reducible show Cls _ _); exact Txt.cl_Queues T) | ((with_reducible show NoAttr _ _ _); exact Txt.n_Queues_load_rooms T) | (with_reducible exact gt_Queues_load_rooms) | ((with_reducible show NoAttr _ _ _); exact Txt.n_Queues_store_rooms T) | (with_reducible exact gt_Queues_store_rooms) | ((with_reducible show NoAttr _ _ _); exact Txt.n_Queues_loads T) | (with_reducible exact gt_Queues_loads) | ((with_reducible show NoAttr _ _ _); exact Txt.n_Queues_stores T) | (with_reducible exact gt_Queues_stores)  | ((with_reducible show V.ref _ = V.ref _); (first | rfl | fail))
 | ((with_reducible show DGet _ _ _ _); (first | exact DGet.ki (by walk_at "at") (by assumption) | exact DGet.kiF (by walk_at "at") (by assumption) | fail))
 | ((with_reducible show DPut _ _ _ _ _); exact DPut.ki (by walk_at "at") (by assumption))
 | ((with_reducible show Rd _ _ _); (first | exact Or.inl (by walk_at "at") | exact Or.inr ⟨_, by walk_at "at"⟩ | fail))
 | ((with_reducible show (∃ _ : List (Key × V), _) ∨ _); refine Or.inl ⟨_, by walk_at "at", ?_⟩)
 | ((with_reducible show Dv _ _ _ _); focus walk_at "dv") | ((with_reducible show Dv1 _ _ _ _); focus walk_at "dv")
 | ((with_reducible show IsD _ _); exact Or.inl ⟨_, Or.inl (by walk_at "at")⟩)
 | ((with_reducible show V.int _ = kV _); exact kV_int)
 | ((with_reducible show Option.isSome _ = true); (first | exact isSome_ofV (by assumption) | assumption | fail))
 | ((with_reducible show SqL _ _ _ _ ∨ SqT _ _ _ _); (first | exact Or.inl (by assumption) | exact Or.inr (by assumption) | exact Or.inl (SqL.of (by walk_at "at")) | exact Or.inr (SqT.of (by walk_at "at")) | fail))
 | ((with_reducible show Dp _ _ _ _); (first | assumption | exact hO.dpL (by walk_at "mem") | exact .lst (SqL.of (by walk_at "at")) (hO.all (by walk_at "dv")) | exact hO.one (by walk_at "dv") | fail))
 | ((with_reducible show TruV _ _ _ _); (first | exact Or.inl ⟨_, SqL.of (by walk_at "at"), rfl⟩ | exact Or.inr (Or.inr ⟨_, by walk_at "at", rfl⟩) | exact Or.inr (Or.inl ⟨_, SqT.of (by walk_at "at"), rfl⟩) | fail))
 | ((with_reducible show RgOk _ _); exact RgOk.of_le (by omega) (by omega) (by omega) (by omega))
 | rfl | (with_reducible assumption) | apply And.intro | apply Exists.intro | refine iteT ?_ | refine iteF ?_
 | (walk_at "st"; (try walk_at "fl"))
 | ((with_reducible show ∀ _ : Addr, _ = none → _); (fail_if_success (with_reducible show ∀ _ : Addr, _ = none → ∃ _ : Nat → Nat → Hp → Prop, _)); intro p fp; walk_at "st")
 | (refine Or.inl ⟨SqL.of (by walk_at "at"), ?_⟩) | (refine Or.inr ⟨SqT.of (by walk_at "at"), ?_⟩) | exact Or.inl ⟨_, by walk_at "at", rfl⟩ | exact Or.inl ⟨rfl, _, SqL.of (by walk_at "at")⟩ | exact tyl_of (by walk_at "at") | exact Or.inl (SqL.of (by walk_at "at")) | exact Or.inr (SqT.of (by walk_at "at")) | exact Or.inl (by walk_at "at") | exact size_le (Nat.le_of_ble_eq_true rfl) | exact Nat.le_of_ble_eq_true rfl | exact True.intro | exact Or.inl rfl | exact Or.inr rfl | (show (_ : Prop); assumption) | (show (_ : Prop); omega) | (show (_ : Prop); dsimp only; omega) | exact mulw64 (by omega) (by omega) | exact mulw64 (by (try dsimp only); omega) (by (try dsimp only); omega) | fail))
local macro_rules | `(tactic| walk_at "go") => `(tactic| repeat walk_at "g1")

section
variable {P : Program} {w : World} {K : PySem.W.Frag} {mg : Str → Option Value} {base : Heap}
def sp_Lpot (K : PySem.W.Frag) : Sp := fun vs H Q _ => ∃ (a : Addr) (ns : List Int), vs = [.ref a, .int 0] ∧ SqL K H a (ns.map V.int) ∧ ns.length ≤ 63 ∧ ∀ p (H' : Hp), Own K H' (pt p ++ []) [] → Q (.ref p) H'
theorem ok_Lpot (T : Txt K mg) : FnOk P w K mg base CX0 1 T.f_Lpot T.fd_Lpot ["_law_script", "_law_k"] (sp_Lpot K) := by
  refine T.F_Lpot.ok sc_Lpot (fun vs H Q E h => ?_) (fun cdv A outer s H vs Q E hr h => ?_)
  · obtain ⟨a, ns, rfl, hS, hl, k⟩ := h; rfl
  · obtain ⟨a, ns, rfl, hS, hl, k⟩ := h
    refine ⟨_, (pss_cons (ps_set (i := 2) sc_Lpot.nd rfl (Or.inl rfl) (pe_op op_add (pe_op op_mulW pe_int (pv 1)) pe_int))
        (pss_cons (ps_if (pt_cmpR op_lt (pv 1) (pe_callB call_len_list (by rfl) T.m_len (by decide +kernel) (pa_cons (pv 0) pa_nil)) (nomark _))
          (pss_one (ps_set (i := 2) sc_Lpot.nd rfl (Or.inl rfl) (pe_callB call_abs (by rfl) T.m_abs (by decide +kernel) (pa_cons (pe_ix ix_list (pv 0) (pv 1) (fun _ _ => rfl)) pa_nil))))
          pss_nil)
        (pss_one (ps_ret (pe_lst (pa_cons (pe_callB (call_max2 rfl) (by rfl) T.m_max (by decide +kernel) (pa_cons pe_int (pa_cons (pe_op op_sub (pv 2) (pe_op op_pow pe_int pe_int)) pa_nil))) (pa_cons (pe_op op_add (pe_op op_mod (pe_callTy call_int1i (by rfl) T.m_int (by decide +kernel) (pa_cons (pe_op op_add (pe_op op_mulW (pe_op op_mod (pe_callTy call_int1i (by rfl) T.m_int (by decide +kernel) (pa_cons (pv 2) pa_nil)) pe_int) (pe_op op_add (pe_op op_mulW pe_int (pv 1)) pe_int)) pe_int) pa_nil)) pe_int) pe_int) pa_nil))))))), ?_⟩
    clear hr
    simp only [pt, List.cons_append, List.nil_append] at k
    have hO : Own K H [] [] := Own.start
    walk_at "go"
    refine iteD (fun h => ?_) (fun h => ?_)
    · obtain ⟨v, hv, hm⟩ := pick_at (xs := ns.map V.int) (d := 0) (by omega) (by simpa using h)
      obtain ⟨z, _, rfl⟩ := List.mem_map.mp hm
      walk_at "go"
      apply k
      walk_at "fin"
      exact ⟨_, _, rfl, by split <;> omega, by omega, by omega⟩
    · walk_at "go"
      apply k
      walk_at "fin"
      exact ⟨_, _, rfl, by split <;> omega, by omega, by omega⟩

theorem ok_Ldraw (T : Txt K mg) : FnOk P w K mg base CX0 1 T.f_Ldraw T.fd_Ldraw ["_law_pot_here", "_law_size"] (spDrw K) := by
  refine T.F_Ldraw.ok sc_Ldraw (fun vs H Q E h => ?_) (fun cdv A outer s H vs Q E hr h => ?_)
  · obtain ⟨a, n, R, P, rfl, hO, hn, hn2, k⟩ := h; rfl
  · obtain ⟨a, n, R, P, rfl, hO, hn, hn2, k⟩ := h
    refine ⟨_, (pss_cons (ps_if (pt_cmpR op_gt (pe_ix ix_list (pv 0) pe_int (fun _ _ => rfl)) pe_int (nomark _))
          (pss_cons (ps_asg (pe_callB call_divmod (by rfl) T.m_divmod (by decide +kernel) (pa_cons (pe_ix ix_list (pv 0) pe_int (fun _ _ => rfl)) (pa_cons (pv 1) pa_nil))) (pg_tup rfl (pgs_cons (pg_sub (pv 0) pe_int set_list) (pgs_cons (pg_name (i := 2) sc_Ldraw.nd rfl (Or.inl rfl)) pgs_nil))))
          (pss_one (ps_ret (pv 2))))
          pss_nil)
        (pss_cons (ps_asg (pe_op op_mod (pe_callTy call_int1i (by rfl) T.m_int (by decide +kernel) (pa_cons (pe_op op_add (pe_op op_mulW (pe_ix ix_list (pv 0) pe_int (fun _ _ => rfl)) pe_int) pe_int) pa_nil)) pe_int) (pg_sub (pv 0) pe_int set_list))
        (pss_one (ps_ret (pe_op op_mod (pe_callTy call_int1i (by rfl) T.m_int (by decide +kernel) (pa_cons (pe_op op_fdiv (pe_op op_mod (pe_callTy call_int1i (by rfl) T.m_int (by decide +kernel) (pa_cons (pe_op op_mulW (pe_ix ix_list (pv 0) pe_int (fun _ _ => rfl)) (pe_ix ix_list (pv 0) pe_int (fun _ _ => rfl))) pa_nil)) pe_int) pe_int) pa_nil)) (pv 1)))))), ?_⟩
    clear hr
    simp only [pt, List.cons_append, List.nil_append] at hO k
    obtain ⟨o, ⟨x, y, rfl, hx, hy, hy2⟩, o1⟩ := hO.openS (a := a) (φ := PotO) (by walk_at "mem")
    replace hO := o1 _ (by walk_at "setat")
    clear o1
    walk_at "go"
    refine iteD (fun h => ?_) (fun h => ?_)
    · walk_at "go"
      refine k (x % n) _ (Int.emod_nonneg _ (by omega)) (Int.emod_lt_of_pos _ hn) ?_
      walk_at "fin"
      exact ⟨x / n, y, rfl, Int.ediv_nonneg hx (by omega), hy, hy2⟩
    · walk_at "go"
      refine k _ _ (Int.emod_nonneg _ (by omega)) (Int.emod_lt_of_pos _ hn) ?_
      walk_at "fin"
      exact ⟨x, _, rfl, hx, by omega, by omega⟩
end
end K77

set_option Elab.async false
set_option linter.all false
set_option maxRecDepth 100000
set_option maxHeartbeats 8000000

namespace K77
open PySem PySem.Spec PyProof.Rows L2 Hx 
local macro_rules | `(tactic| walk_at "sm") => `(tactic| repeat' (first | assumption | apply Hx.Same.upd | exact L2.Same.refl _ | apply same_trans'))
local macro_rules | `(tactic| walk_at "hp") => `(tactic| repeat' (first | assumption | exact upd_same | apply old_upd | apply same_at))
local macro_rules | `(tactic| walk_at "rd") => `(tactic| repeat' (first | rfl | apply Exists.intro | apply And.intro | refine iteT ?_ | refine iteF ?_ | exact upd_same | exact SqL.of (by assumption) | exact SqL.of upd_same | exact SqT.of upd_same | exact SqT.of (by assumption) | ((with_reducible show (_ : Int) < _); omega) | ((with_reducible show (_ : Int) ≤ _); omega) | (show (_ : Prop); assumption) | exact Or.inl ⟨_, by assumption, rfl⟩ | exact Or.inl ⟨rfl, _, SqL.of (by assumption)⟩ | exact Or.inl ⟨rfl, _, SqL.of upd_same⟩ | apply old_upd | apply Hx.SqL.new | apply tyl_new | apply Pot.new | exact same_at (by assumption) (by assumption) | exact Or.inl (SqL.of (by assumption)) | exact Or.inl (by assumption) | exact Or.inl (SqL.of upd_same) | exact size_le (Nat.le_of_ble_eq_true rfl) | exact Nat.le_of_ble_eq_true rfl | exact True.intro | exact Or.inl rfl | exact Or.inr rfl | (show (_ : Prop); omega) | (show (_ : Prop); dsimp only; omega) | exact mulw64 (by omega) (by omega) | exact mulw64 (by (try dsimp only); omega) (by (try dsimp only); omega)))
set_option hygiene false in
local macro_rules | `(tactic| walk_at "fl") => `(tactic| simp only [pu_Queues_load_rooms, pi_Queues_load_rooms, pu_Queues_store_rooms, pi_Queues_store_rooms, pu_Queues_loads, pi_Queues_loads, pu_Queues_stores, pi_Queues_stores] at hO)
local macro_rules | `(tactic| walk_at "mem") => `(tactic| ((repeat (first | exact List.Mem.head _ | apply List.Mem.tail | fail)); done))
local macro_rules | `(tactic| walk_at "setat") => `(tactic| ((repeat (first | (with_reducible exact At.head) | (with_reducible apply At.tail) | (with_reducible apply At.app) | fail)); done))
set_option hygiene false in
local macro_rules | `(tactic| walk_at "dv") => `(tactic| ((repeat' (first | exact Dv.nil | exact Dv.of (by walk_at "mem") | exact Dv.ints _ | exact Dv1.of (by walk_at "mem") | exact Dv1.int _ | exact Dv1.non | exact Dv1.bl _ | exact Dv1.str _ | (with_reducible apply Dv.cons) | refine Dv1.tup (by walk_at "mem") ?_ | refine Dv1.lst (by walk_at "mem") ?_ | (with_reducible apply Dv.app) | fail)); done))
local macro_rules | `(tactic| walk_at "ft") => `(tactic| (first | (with_reducible exact Ft.refl) | ((with_reducible apply Ft.toL); focus walk_at "dv") | ((with_reducible apply Ft.toS); focus assumption) | (with_reducible apply Ft.lst) | (with_reducible apply Ft.Le) | (with_reducible apply Ft.dK) | (with_reducible apply Ft.De) | (with_reducible apply Ft.ins) | (with_reducible apply Ft.toL) | (with_reducible apply Ft.toS) | (with_reducible apply Ft.toD) | fail))
local macro_rules | `(tactic| walk_at "sbL") => `(tactic| repeat' (first | (with_reducible exact Sb.refl _) | exact Sb.nil | (with_reducible apply Sb.cons) | (with_reducible apply Sb.app) | (with_reducible exact Pk.one) | (with_reducible exact Pk.here) | (with_reducible exact Pk.all) | (with_reducible apply Pk.skip1) | (with_reducible apply Pk.skipB) | (with_reducible apply Sb.skip) | (with_reducible apply Sb.skipB) | ((with_reducible show Ft _ _ _ _); walk_at "ft") | ((with_reducible show (_ : List _) = _); (first | rfl | (simp [List.map_set, List.map_append]; done) | fail)) | fail))
local macro_rules | `(tactic| walk_at "sb") => `(tactic| ((walk_at "sbL"); done))
local macro_rules | `(tactic| walk_at "ps") => `(tactic| ((repeat' (first | (with_reducible exact Ps.refl) | exact Ps.nil | (with_reducible apply Ps.cons) | exact List.Mem.head _ | apply List.Mem.tail | (with_reducible apply Ps.skip) | fail)); done))
set_option hygiene false in
local macro_rules | `(tactic| walk_at "at") => `(tactic| first | assumption | exact Own.raw hO (by walk_at "mem") | exact Own.ptup hO (by walk_at "mem") | exact Own.plst hO (by walk_at "mem") | fail)
set_option hygiene false in
local macro_rules | `(tactic| walk_at "st") => `(tactic| (rw [upd_mkO hO]; generalize e : updX _ _ _ = H1; (first | ((apply Own.cset hO e); (focus walk_at "setat"); (try clear hO e); intro hO) | ((apply Own.cnewT hO e); (focus assumption); (try clear hO e); intro hO) | ((apply Own.cnew hO e); (focus assumption); (try clear hO e); intro hO) | fail)))
set_option hygiene false in
local macro_rules | `(tactic| walk_at "mk") => `(tactic| (intro p1 p2 f1 f2 f3; rw [upd_mkO hO]; generalize e : upd (updX _ _ _) _ _ = H1; apply Own.cmake hO f1 f2 f3 e; (try clear hO e); intro hO))
set_option hygiene false in
local macro_rules | `(tactic| walk_at "own") => `(tactic| (first | ((apply Own.sub hO); (focus walk_at "sb"); (focus walk_at "ps")) | ((apply Own.sub hF); (focus walk_at "sb"); (focus walk_at "ps")) | fail))
set_option hygiene false in
local macro_rules | `(tactic| walk_at "fin") => `(tactic| (refine Own.sub hO ?_ (by walk_at "ps"); walk_at "sbL"))
set_option hygiene false in
local macro_rules | `(tactic| walk_at "g1") => `(tactic| (first
 | ((with_reducible show (_ : Option HO) = _); walk_at "at")
 | ((with_reducible show (_ : Int) < _); omega) | ((with_reducible show (_ : Int) ≤ _); omega)
 | ((with_reducible show (_ : Nat) < _); (first | assumption | exact Nat.le_of_ble_eq_true rfl | exact size_lt (Nat.le_of_ble_eq_true rfl) | omega | (simp; done) | (simp; omega) | fail))
 | ((with_reducible show (_ : Nat) ≤ _); (first | assumption | exact Nat.le_of_ble_eq_true rfl | exact size_le (Nat.le_of_ble_eq_true rfl) | omega | (simp; done) | (simp; omega) | fail))
 | ((with_reducible show Own _ _ _ _); (first | walk_at "own" | (walk_at "st"; walk_at "own") | fail))
 | ((with_reducible show SqL _ _ _ _); (first | assumption | exact SqL.of (by walk_at "at") | fail))
 | ((with_reducible show SqT _ _ _ _); (first | assumption | exact hO.psq (by walk_at "mem") | exact SqT.of (by walk_at "at") | fail))
  | ((with_reducible show Cls _ _); exact Txt.cl_Queues T) | ((with_reducible show NoAttr _ _ _); exact Txt.n_Queues_load_rooms T) | (with_reducible exact gt_Queues_load_rooms) | ((with_reducible show NoAttr _ _ _); exact Txt.n_Queues_store_rooms T) | (with_reducible exact gt_Queues_store_rooms) | ((with_reducible show NoAttr _ _ _); exact Txt.n_Queues_loads T) | (with_reducible exact gt_Queues_loads) | ((with_reducible show NoAttr _ _ _); exact Txt.n_Queues_stores T) | (with_reducible exact gt_Queues_stores)  | ((with_reducible show V.ref _ = V.ref _); (first | rfl | fail))
 | ((with_reducible show DGet _ _ _ _); (first | exact DGet.ki (by walk_at "at") (by assumption) | exact DGet.kiF (by walk_at "at") (by assumption) | fail))
 | ((with_reducible show DPut _ _ _ _ _); exact DPut.ki (by walk_at "at") (by assumption))
 | ((with_reducible show Rd _ _ _); (first | exact Or.inl (by walk_at "at") | exact Or.inr ⟨_, by walk_at "at"⟩ | fail))
 | ((with_reducible show (∃ _ : List (Key × V), _) ∨ _); refine Or.inl ⟨_, by walk_at "at", ?_⟩)
 | ((with_reducible show Dv _ _ _ _); focus walk_at "dv") | ((with_reducible show Dv1 _ _ _ _); focus walk_at "dv")
 | ((with_reducible show IsD _ _); exact Or.inl ⟨_, Or.inl (by walk_at "at")⟩)
 | ((with_reducible show V.int _ = kV _); exact kV_int)
 | ((with_reducible show Option.isSome _ = true); (first | exact isSome_ofV (by assumption) | assumption | fail))
 | ((with_reducible show SqL _ _ _ _ ∨ SqT _ _ _ _); (first | exact Or.inl (by assumption) | exact Or.inr (by assumption) | exact Or.inl (SqL.of (by walk_at "at")) | exact Or.inr (SqT.of (by walk_at "at")) | fail))
 | ((with_reducible show Dp _ _ _ _); (first | assumption | exact hO.dpL (by walk_at "mem") | exact .lst (SqL.of (by walk_at "at")) (hO.all (by walk_at "dv")) | exact hO.one (by walk_at "dv") | fail))
 | ((with_reducible show TruV _ _ _ _); (first | exact Or.inl ⟨_, SqL.of (by walk_at "at"), rfl⟩ | exact Or.inr (Or.inr ⟨_, by walk_at "at", rfl⟩) | exact Or.inr (Or.inl ⟨_, SqT.of (by walk_at "at"), rfl⟩) | fail))
 | ((with_reducible show RgOk _ _); exact RgOk.of_le (by omega) (by omega) (by omega) (by omega))
 | rfl | (with_reducible assumption) | apply And.intro | apply Exists.intro | refine iteT ?_ | refine iteF ?_
 | (walk_at "st"; (try walk_at "fl"))
 | ((with_reducible show ∀ _ : Addr, _ = none → _); (fail_if_success (with_reducible show ∀ _ : Addr, _ = none → ∃ _ : Nat → Nat → Hp → Prop, _)); intro p fp; walk_at "st")
 | (refine Or.inl ⟨SqL.of (by walk_at "at"), ?_⟩) | (refine Or.inr ⟨SqT.of (by walk_at "at"), ?_⟩) | exact Or.inl ⟨_, by walk_at "at", rfl⟩ | exact Or.inl ⟨rfl, _, SqL.of (by walk_at "at")⟩ | exact tyl_of (by walk_at "at") | exact Or.inl (SqL.of (by walk_at "at")) | exact Or.inr (SqT.of (by walk_at "at")) | exact Or.inl (by walk_at "at") | exact size_le (Nat.le_of_ble_eq_true rfl) | exact Nat.le_of_ble_eq_true rfl | exact True.intro | exact Or.inl rfl | exact Or.inr rfl | (show (_ : Prop); assumption) | (show (_ : Prop); omega) | (show (_ : Prop); dsimp only; omega) | exact mulw64 (by omega) (by omega) | exact mulw64 (by (try dsimp only); omega) (by (try dsimp only); omega) | fail))
local macro_rules | `(tactic| walk_at "go") => `(tactic| repeat walk_at "g1")

section
variable {P : Program} {w : World} {K : PySem.W.Frag} {mg : Str → Option Value} {base : Heap}
theorem fv_oD (o : Option Int) : fv (oD o) = oV o := by cases o <;> rfl
theorem opnR {K : PySem.W.Frag} {H : Hp} {L : List (Addr × Ob)} {P : List Pf} {v : V} {r : QR} (h : Own K H L P) (x : Dv1 K P v (rD r)) : ∃ t, v = .ref t ∧ Own K H L (.sq t [.int r.1, oV r.2.1, oV r.2.2] :: P) := by
  obtain ⟨n, oa, ob⟩ := r
  obtain ⟨t, e, h2⟩ := h.opn x (by cases oa <;> cases ob <;> rfl)
  refine ⟨t, e, ?_⟩
  have e2 : [PyData.int n, oD oa, oD ob].map fv = [.int n, oV oa, oV ob] := by rw [List.map_cons, List.map_cons, List.map_cons, fv_oD, fv_oD]; rfl
  rw [← e2]; exact h2
theorem asc_nodup {zs : List Int} (h : zs.Pairwise (· < ·)) : zs.Nodup := h.imp fun h => Int.ne_of_lt h
theorem asc_snoc {zs : List Int} {n : Int} (h : zs.Pairwise (· < ·)) (hn : ∀ z ∈ zs, z < n) : (zs ++ [n]).Pairwise (· < ·) :=
  List.pairwise_append.mpr ⟨h, List.pairwise_singleton _ _, fun x hx y hy => by simp at hy; subst hy; exact hn x hx⟩
abbrev RW := Bool × Int × Int
def rwD (r : RW) : PyData := .tuple [.bool r.1, .int r.2.1, .int r.2.2]
def putM (ms : List Int) (r : RW) : List Int := if r.1 then ms.set r.2.1.toNat r.2.2 else ms
def memK (rs : List RW) (k : Nat) : List Int := (rs.take k).foldl putM [1, 2, 3]
def dueR (ms : List Int) (r : RW) : Option Int := if r.1 then none else some (ms.getD r.2.1.toNat 0)
def dueK (rs : List RW) (k : Nat) : Option Int := (rs[k]?).bind fun r => dueR (memK rs k) r
structure RowsOk (rs : List RW) : Prop where
  n5 : 5 ≤ rs.length
  n9 : rs.length ≤ 9
  pl : ∀ r ∈ rs, 0 ≤ r.2.1 ∧ r.2.1 < 3
  wd : ∀ r ∈ rs, 0 ≤ r.2.2 ∧ r.2.2 < 65536
theorem putM_len (ms : List Int) (r : RW) : (putM ms r).length = ms.length := by
  unfold putM; split <;> simp
theorem foldM_len (rs : List RW) : ∀ ms : List Int, (rs.foldl putM ms).length = ms.length := by
  induction rs with
  | nil => intro ms; rfl
  | cons r rs ih => intro ms; rw [List.foldl_cons, ih, putM_len]
theorem memK_len (rs : List RW) (k : Nat) : (memK rs k).length = 3 := by rw [memK, foldM_len]; rfl
theorem memK_zero (rs : List RW) : memK rs 0 = [1, 2, 3] := by rw [memK, List.take_zero]; rfl
theorem memK_succ {rs : List RW} {k : Nat} {r : RW} (h : rs[k]? = some r) : memK rs (k + 1) = putM (memK rs k) r := by
  rw [memK, List.take_add_one, h]
  show ((rs.take k ++ [r]).foldl putM _) = _
  rw [List.foldl_append]; rfl
/-- one in flight -/
structure FE where
  sp : Nat
  st : Bool
  pl : Int
  wd : Int
  nu : Int
  dn : Bool
  gt : Option Int
  sr : Option Int
def fD (e : FE) : PyData := .tuple [.int (e.sp : Int), .int e.nu, .bool e.dn, oD e.gt]
def lrow (e : FE) : QR := (e.nu, if e.dn then some e.pl else none, if e.dn then e.sr else none)
def srow (e : FE) : QR := (e.nu, if e.dn then some e.pl else none, if e.dn then some e.wd else none)
def lsOf (fs : List FE) : List QR := (fs.filter fun e => !e.st).map lrow
def ssOf (fs : List FE) : List QR := (fs.filter fun e => e.st).map srow
def hitS (p : Int) (e : FE) : Bool := e.st && e.dn && decide (e.pl = p)
def lastS (A : List FE) (p : Int) : Option FE := (A.filter (hitS p)).getLast?
def hitF (n p : Int) (f : FE) : Bool := !f.st && f.dn && decide (f.pl = p) && decide (f.sr.getD (-1) < n)
def okV (ms : List Int) (fs A : List FE) (e : FE) : Prop := match lastS A e.pl with
  | some d => e.gt = some d.wd ∧ e.sr = some d.nu
  | none => e.gt = some (ms.getD e.pl.toNat 0) ∧ ∀ v, e.sr = some v → 0 ≤ v ∧ ∀ f ∈ fs, v < f.nu
structure Fl (rs : List RW) (ms : List Int) (s0 : Nat) (fs : List FE) (nx : Int) : Prop where
  sp : fs.map (fun e => e.sp) = List.range' s0 fs.length
  le : s0 + fs.length ≤ rs.length
  row : ∀ e ∈ fs, rs[e.sp]? = some (e.st, e.pl, e.wd)
  asc : (fs.map fun e => e.nu).Pairwise (· < ·)
  lo : ∀ e ∈ fs, 0 ≤ e.nu ∧ e.nu < nx
  nx0 : 0 ≤ nx
  mem : ms = memK rs s0
  val : ∀ A e B, fs = A ++ e :: B → e.dn = true → e.st = false → okV ms fs A e
  stn : ∀ e ∈ fs, e.st = true → e.gt = none
theorem Fl.lt_of {rs : List RW} {ms : List Int} {s0 : Nat} {A B : List FE} {e : FE} {nx : Int} (h : Fl rs ms s0 (A ++ e :: B) nx) : (∀ a ∈ A, a.nu < e.nu) ∧ (∀ b ∈ B, e.nu < b.nu) ∧ (∀ a ∈ A, ∀ b ∈ B, a.nu < b.nu) := by
  have a := h.asc
  rw [List.map_append, List.map_cons, List.pairwise_append, List.pairwise_cons] at a
  refine ⟨fun x hx => a.2.2 _ (List.mem_map.mpr ⟨x, hx, rfl⟩) _ List.mem_cons_self, fun x hx => a.2.1.1 _ (List.mem_map.mpr ⟨x, hx, rfl⟩), fun x hx y hy => a.2.2 _ (List.mem_map.mpr ⟨x, hx, rfl⟩) _ (List.mem_cons_of_mem _ (List.mem_map.mpr ⟨y, hy, rfl⟩))⟩
theorem lsOf_app (A B : List FE) : lsOf (A ++ B) = lsOf A ++ lsOf B := by rw [lsOf, List.filter_append, List.map_append]; rfl
theorem ssOf_app (A B : List FE) : ssOf (A ++ B) = ssOf A ++ ssOf B := by rw [ssOf, List.filter_append, List.map_append]; rfl
theorem qk_ls (fs : List FE) : qkeys (lsOf fs) = (fs.filter fun e => !e.st).map fun e => e.nu := by rw [qkeys, lsOf, List.map_map]; rfl
theorem qk_ss (fs : List FE) : qkeys (ssOf fs) = (fs.filter fun e => e.st).map fun e => e.nu := by rw [qkeys, ssOf, List.map_map]; rfl
theorem Fl.al {rs : List RW} {ms : List Int} {s0 : Nat} {fs : List FE} {nx : Int} (h : Fl rs ms s0 fs nx) : (qkeys (lsOf fs)).Pairwise (· < ·) := by rw [qk_ls]; exact h.asc.sublist (List.filter_sublist.map _)
theorem Fl.as {rs : List RW} {ms : List Int} {s0 : Nat} {fs : List FE} {nx : Int} (h : Fl rs ms s0 fs nx) : (qkeys (ssOf fs)).Pairwise (· < ·) := by rw [qk_ss]; exact h.asc.sublist (List.filter_sublist.map _)
theorem ls_len (fs : List FE) : (lsOf fs).length ≤ fs.length := by rw [lsOf, List.length_map]; exact List.length_filter_le _ _
theorem ss_len (fs : List FE) : (ssOf fs).length ≤ fs.length := by rw [ssOf, List.length_map]; exact List.length_filter_le _ _
theorem qk_mem {fs : List FE} {z : Int} (h : z ∈ qkeys (lsOf fs) ++ qkeys (ssOf fs)) : ∃ e ∈ fs, e.nu = z := by
  rw [qk_ls, qk_ss] at h
  rcases List.mem_append.mp h with h | h
  all_goals
    obtain ⟨e, he, rfl⟩ := List.mem_map.mp h
    exact ⟨e, (List.mem_filter.mp he).1, rfl⟩
theorem mem_ls {fs : List FE} {e : FE} (h : e ∈ fs) (hs : e.st = false) : lrow e ∈ lsOf fs := List.mem_map.mpr ⟨e, List.mem_filter.mpr ⟨h, by rw [hs]; rfl⟩, rfl⟩
theorem mem_ss {fs : List FE} {e : FE} (h : e ∈ fs) (hs : e.st = true) : srow e ∈ ssOf fs := List.mem_map.mpr ⟨e, List.mem_filter.mpr ⟨h, hs⟩, rfl⟩
theorem src_eq {rs : List RW} {ms : List Int} {s0 : Nat} {A B : List FE} {e : FE} {nx : Int} (h : Fl rs ms s0 (A ++ e :: B) nx) (p : Int) : srcOf (ssOf (A ++ e :: B)) e.nu p = (lastS A p).map fun d => (d.nu, some d.wd) := by
  obtain ⟨h1, h2, h3⟩ := h.lt_of
  have k1 : (ssOf (A ++ e :: B)).filter (fun r => decide (r.1 < e.nu) && decide (r.2.1 = some p)) = (A.filter (hitS p)).map srow := by
    rw [ssOf, List.filter_map, List.filter_filter, List.filter_append]
    have e2 : (e :: B).filter (fun a => ((fun r : QR => decide (r.1 < e.nu) && decide (r.2.1 = some p)) ∘ srow) a && a.st) = [] := by
      rw [List.filter_eq_nil_iff]
      intro b hb
      have : ¬ b.nu < e.nu := by
        rcases List.mem_cons.mp hb with rfl | hb
        · omega
        · have := h2 b hb; omega
      simp [srow, this]
    rw [e2, List.append_nil]
    congr 1
    refine List.filter_congr fun a ha => ?_
    have := h1 a ha
    by_cases q1 : a.st = true <;> by_cases q2 : a.dn = true <;> simp [srow, hitS, this, q1, q2]
  rw [srcOf, k1, List.getLast?_map, lastS]
  cases h5 : (A.filter (hitS p)).getLast? with
  | none => rfl
  | some d =>
    have := (List.mem_filter.mp (List.mem_of_getLast? h5)).2
    simp only [hitS, Bool.and_eq_true] at this
    simp [srow, this.1.2]
theorem erl_eq {rs : List RW} {ms : List Int} {s0 : Nat} {A B : List FE} {e : FE} {nx : Int} (h : Fl rs ms s0 (A ++ e :: B) nx) (hs : e.st = true) (p : Int) : erl (lsOf (A ++ e :: B)) e.nu p = (B.find? (hitF e.nu p)).map fun f => f.nu := by
  obtain ⟨h1, h2, h3⟩ := h.lt_of
  have hn := (h.lo e (by simp)).1
  rw [erl, lsOf, List.find?_map, List.find?_filter]
  have e1 : (A ++ e :: B).find? (fun a => !a.st && (hitE e.nu p ∘ lrow) a) = B.find? (hitF e.nu p) := by
    rw [List.find?_append, List.find?_cons]
    have n1 : A.find? (fun a => !a.st && (hitE e.nu p ∘ lrow) a) = none := by
      rw [List.find?_eq_none]
      intro a ha
      have : ¬ e.nu < a.nu := by have := h1 a ha; omega
      simp [hitE, lrow, this]
    rw [n1, hs]
    simp only [Bool.not_true, Bool.false_and, Option.none_or]
    have : ∀ b ∈ B, (!b.st && (hitE e.nu p ∘ lrow) b) = hitF e.nu p b := fun b hb => by
      have := h2 b hb
      by_cases q1 : b.st = true <;> by_cases q2 : b.dn = true <;> simp [hitE, lrow, hitF, this, q1, q2]
      cases q3 : b.sr <;> simp
      intro _; omega
    clear n1 h hs hn h2 h3
    induction B with
    | nil => rfl
    | cons b B ih =>
      rw [List.find?_cons, List.find?_cons, this b List.mem_cons_self]
      cases hitF e.nu p b with
      | true => rfl
      | false => exact ih fun x hx => this x (List.mem_cons_of_mem _ hx)
  have e0 : (fun a : FE => decide ((!a.st) = true ∧ (hitE e.nu p ∘ lrow) a = true)) = fun a => !a.st && (hitE e.nu p ∘ lrow) a := by
    funext a
    cases (!a.st) <;> cases ((hitE e.nu p ∘ lrow) a) <;> rfl
  rw [e0, e1, Option.map_map]; rfl
theorem lastS_sub {A : List FE} {p : Int} {d : FE} (h : lastS A p = some d) : d ∈ A ∧ d.st = true ∧ d.dn = true ∧ d.pl = p := by
  have := List.mem_filter.mp (List.mem_of_getLast? h)
  simp only [hitS, Bool.and_eq_true, decide_eq_true_eq] at this
  exact ⟨this.1, this.2.1.1, this.2.1.2, this.2.2⟩
theorem sp_get {rs : List RW} {ms : List Int} {s0 : Nat} {fs : List FE} {nx : Int} (h : Fl rs ms s0 fs nx) {i : Nat} {e : FE} (hi : fs[i]? = some e) : e.sp = s0 + i := by
  have h1 := congrArg (fun l => l[i]?) h.sp
  simp only [List.getElem?_map, hi, Option.map_some] at h1
  have hl := (List.getElem?_eq_some_iff.mp hi).1
  rw [List.getElem?_range' hl] at h1
  have := Option.some.inj h1
  omega
theorem Fl.enter {rs : List RW} {ms : List Int} {s0 : Nat} {fs : List FE} {nx : Int} {r : RW} (h : Fl rs ms s0 fs nx) (hr : rs[s0 + fs.length]? = some r) : Fl rs ms s0 (fs ++ [⟨s0 + fs.length, r.1, r.2.1, r.2.2, nx, false, none, none⟩]) (nx + 1) := by
  have hlt := (List.getElem?_eq_some_iff.mp hr).1
  have hn := h.nx0
  refine ⟨?_, by rw [List.length_append, List.length_singleton]; omega, fun e he => ?_, ?_, fun e he => ?_, by omega, h.mem, fun A e B he hd hs => ?_, fun e he hs => ?_⟩
  · rw [List.map_append, h.sp, List.length_append, List.length_singleton, List.range'_concat, Nat.one_mul]; rfl
  · rcases List.mem_append.mp he with m | m
    · exact h.row e m
    · rw [List.mem_singleton.mp m]; exact hr
  · rw [List.map_append]
    refine asc_snoc h.asc fun z hz => ?_
    obtain ⟨e, he, rfl⟩ := List.mem_map.mp hz
    exact (h.lo e he).2
  · rcases List.mem_append.mp he with m | m
    · have := h.lo e m; omega
    · rw [List.mem_singleton.mp m]; exact ⟨hn, by show nx < nx + 1; omega⟩
  · rcases List.eq_nil_or_concat B with rfl | ⟨B', b, rfl⟩
    · have := List.append_inj_right' he rfl
      cases this
      simp at hd
    · rw [List.concat_eq_append] at he
      have e1 : fs ++ [(⟨s0 + fs.length, r.1, r.2.1, r.2.2, nx, false, none, none⟩ : FE)] = (A ++ e :: B') ++ [b] := by rw [he]; simp
      have e2 := List.append_inj' e1 rfl
      have v := h.val A e B' e2.1 hd hs
      unfold okV at v ⊢
      cases hl : lastS A e.pl with
      | some d => rw [hl] at v; exact v
      | none =>
        rw [hl] at v
        refine ⟨v.1, fun z hz => ⟨(v.2 z hz).1, fun f hf => ?_⟩⟩
        have v2 := (v.2 z hz).2
        rcases List.mem_append.mp hf with m | m
        · exact v2 f m
        · rw [List.mem_singleton.mp m]
          have m1 : e ∈ fs := by rw [e2.1]; simp
          have := v2 e m1
          have := (h.lo e m1).2
          show z < nx
          omega
  · rcases List.mem_append.mp he with m | m
    · exact h.stn e m hs
    · rw [List.mem_singleton.mp m]
theorem Fl.pls {rs : List RW} {ms : List Int} {s0 : Nat} {fs : List FE} {nx : Int} (ok : RowsOk rs) (h : Fl rs ms s0 fs nx) {e : FE} (he : e ∈ fs) : 0 ≤ e.pl ∧ e.pl < 3 := ok.pl _ (List.mem_of_getElem? (h.row e he))
theorem set_getD (ms : List Int) {p q : Int} (w : Int) (hm : ms.length = 3) (hp : 0 ≤ p ∧ p < 3) (hq : 0 ≤ q ∧ q < 3) : (ms.set p.toNat w).getD q.toNat 0 = if p = q then w else ms.getD q.toNat 0 := by
  rw [List.getD_eq_getElem?_getD, List.getElem?_set, List.getD_eq_getElem?_getD]
  by_cases e : p = q
  · subst e; rw [if_pos rfl, if_pos rfl, if_pos (by omega)]; rfl
  · rw [if_neg (by omega), if_neg e]
theorem Fl.leave {rs : List RW} {ms : List Int} {s0 : Nat} {fs : List FE} {e : FE} {nx : Int} (ok : RowsOk rs) (h : Fl rs ms s0 (e :: fs) nx) (hd : e.dn = true) : e.sp = s0 ∧ rs[s0]? = some (e.st, e.pl, e.wd) ∧ e.gt = dueK rs s0 ∧ Fl rs (putM ms (e.st, e.pl, e.wd)) (s0 + 1) fs nx := by
  have hsp : e.sp = s0 := by simpa using sp_get h (i := 0) rfl
  have hr := h.row e List.mem_cons_self
  rw [hsp] at hr
  have hle := h.le
  rw [List.length_cons] at hle
  have hlt := h.lt_of (A := [])
  refine ⟨hsp, hr, ?_, ⟨?_, by omega, fun x hx => h.row x (List.mem_cons_of_mem _ hx), ?_, fun x hx => h.lo x (List.mem_cons_of_mem _ hx), h.nx0, by rw [memK_succ hr, h.mem], fun A x B hx xd xs => ?_, fun x hx => h.stn x (List.mem_cons_of_mem _ hx)⟩⟩
  · rw [dueK, hr]
    show _ = dueR _ _
    unfold dueR
    cases hs : e.st with
    | true => rw [h.stn e List.mem_cons_self hs]; rfl
    | false =>
      have v := h.val [] e fs rfl hd hs
      have v1 : e.gt = some (ms.getD e.pl.toNat 0) := v.1
      rw [v1, h.mem]; rfl
  · have := h.sp
    rw [List.map_cons, List.length_cons, List.range'_succ, List.cons_eq_cons] at this
    exact this.2
  · have := h.asc
    rw [List.map_cons, List.pairwise_cons] at this
    exact this.2
  · have v := h.val (e :: A) x B (by rw [hx]; rfl) xd xs
    have hm := memK_len rs s0
    rw [← h.mem] at hm
    unfold okV at v ⊢
    have xm : x ∈ fs := by rw [hx]; simp
    have hl : lastS (e :: A) x.pl = match lastS A x.pl with | some d => some d | none => if hitS x.pl e then some e else none := by
      unfold lastS
      rw [List.filter_cons]
      cases hq : (A.filter (hitS x.pl)).getLast? with
      | none =>
        rw [List.getLast?_eq_none_iff] at hq
        rw [hq]
        by_cases hh : hitS x.pl e = true <;> simp [hh]
      | some d =>
        by_cases hh : hitS x.pl e = true
        · rw [if_pos hh, List.getLast?_cons, hq]; rfl
        · rw [if_neg hh, hq]
    rw [hl] at v
    cases hq : lastS A x.pl with
    | some d => rw [hq] at v; exact v
    | none =>
      rw [hq] at v
      by_cases hh : hitS x.pl e = true
      · simp only [hh, if_true] at v
        simp only [hitS, Bool.and_eq_true, decide_eq_true_eq] at hh
        have p3 := h.row e List.mem_cons_self
        refine ⟨?_, fun z hz => ?_⟩
        · rw [v.1]
          congr 1
          have hpe := h.pls ok (List.mem_cons_self (a := e))
          rw [putM, hh.1.1, if_pos rfl, ← hh.2]
          show _ = (ms.set e.pl.toNat e.wd).getD e.pl.toNat 0
          rw [set_getD ms e.wd hm hpe hpe, if_pos rfl]
        · rw [v.2] at hz
          obtain rfl := Option.some.inj hz
          exact ⟨(h.lo e List.mem_cons_self).1, fun f hf => hlt.2.1 f hf⟩
      · have hh' : hitS x.pl e = false := by simpa using hh
        simp only [hh', Bool.false_eq_true, if_false] at v
        refine ⟨?_, fun z hz => ⟨(v.2 z hz).1, fun f hf => (v.2 z hz).2 f (List.mem_cons_of_mem _ hf)⟩⟩
        rw [v.1]
        congr 1
        unfold putM
        by_cases q1 : e.st = true
        · rw [if_pos q1]
          have hne : e.pl ≠ x.pl := fun z => by rw [hitS, q1, hd, z] at hh'; simp at hh'
          show _ = (ms.set e.pl.toNat e.wd).getD x.pl.toNat 0
          rw [set_getD ms e.wd hm (h.pls ok List.mem_cons_self) (h.pls ok (List.mem_cons_of_mem _ xm)), if_neg hne]
        · rw [if_neg q1]
/-- one is done, those behind it up to a place are kept -/
theorem Fl.done {rs : List RW} {ms : List Int} {s0 : Nat} {A B C : List FE} {e : FE} {nx : Int} {g o : Option Int} (h : Fl rs ms s0 (A ++ e :: (B ++ C)) nx) (hd : e.dn = false)
    (hg : e.st = true → g = none) (hl : e.st = false → okV ms (A ++ e :: (B ++ C)) A { e with dn := true, gt := g, sr := o }) (hb : e.st = true → ∀ b ∈ B, hitF e.nu e.pl b = false) :
    Fl rs ms s0 (A ++ { e with dn := true, gt := g, sr := o } :: B) nx := by
  have lt := h.lt_of
  have sub : ∀ x ∈ A ++ { e with dn := true, gt := g, sr := o } :: B, x = { e with dn := true, gt := g, sr := o } ∨ x ∈ A ++ e :: (B ++ C) := fun x hx => by
    rcases List.mem_append.mp hx with m | m
    · exact .inr (by simp [m])
    · rcases List.mem_cons.mp m with rfl | m
      · exact .inl rfl
      · exact .inr (by simp [m])
  have eIn : e ∈ A ++ e :: (B ++ C) := by simp
  have hle := h.le
  have hsp := h.sp
  rw [List.map_append, List.map_cons, List.map_append] at hsp
  rw [List.length_append, List.length_cons, List.length_append] at hle hsp
  have mono : ∀ (X : List FE) (x : FE), okV ms (A ++ e :: (B ++ C)) X x → okV ms (A ++ { e with dn := true, gt := g, sr := o } :: B) X x := fun X x v => by
    unfold okV at v ⊢
    cases hq : lastS X x.pl with
    | some d => rw [hq] at v; exact v
    | none =>
      rw [hq] at v
      refine ⟨v.1, fun z hz => ⟨(v.2 z hz).1, fun f hf => ?_⟩⟩
      rcases sub f hf with rfl | m
      · exact (v.2 z hz).2 e eIn
      · exact (v.2 z hz).2 f m
  refine ⟨?_, by rw [List.length_append, List.length_cons]; omega, fun x hx => ?_, ?_, fun x hx => ?_, h.nx0, h.mem, fun X x Y hx xd xs => ?_, fun x hx xs => ?_⟩
  · rw [List.map_append, List.map_cons, List.length_append, List.length_cons]
    have e1 : A.length + (B.length + C.length + 1) = (A.length + (B.length + 1)) + C.length := by omega
    rw [e1, ← List.range'_append_1, ← List.cons_append, ← List.append_assoc] at hsp
    exact (List.append_inj hsp (by simp)).1
  · rcases sub x hx with rfl | m
    · exact h.row e eIn
    · exact h.row x m
  · have := h.asc
    have e1 : A ++ e :: (B ++ C) = (A ++ e :: B) ++ C := by simp
    rw [e1, List.map_append, List.pairwise_append] at this
    have q := this.1
    rw [List.map_append, List.map_cons] at q ⊢
    exact q
  · rcases sub x hx with rfl | m
    · exact h.lo e eIn
    · exact h.lo x m
  · rcases List.append_eq_append_iff.mp hx with ⟨W, e1, e2⟩ | ⟨W, e1, e2⟩
    · -- A ++ W = X
      cases W with
      | nil =>
        rw [List.nil_append, List.cons_eq_cons] at e2
        obtain ⟨rfl, rfl⟩ := e2
        rw [List.append_nil] at e1
        subst e1
        exact mono _ _ (hl xs)
      | cons w W =>
        rw [List.cons_append, List.cons_eq_cons] at e2
        obtain ⟨rfl, e2⟩ := e2
        subst e1
        have xB : x ∈ B := by rw [e2]; simp
        have v := mono _ _ (h.val (A ++ e :: W) x (Y ++ C) (by rw [e2]; simp) xd xs)
        by_cases q : e.st = true ∧ e.pl = x.pl
        · -- a store of its place
          have hh := hb q.1 x xB
          have lx := lt.2.1 x (by simp [xB])
          have n1 : ¬ x.sr.getD (-1) < e.nu := by
            intro z
            rw [hitF, xs, xd, q.2] at hh
            simp [z] at hh
          have e0 := (h.lo e eIn).1
          have key : lastS (A ++ e :: W) x.pl = lastS (A ++ { e with dn := true, gt := g, sr := o } :: W) x.pl := by
            unfold lastS
            rw [List.filter_append, List.filter_append, List.filter_cons, List.filter_cons, if_neg (by rw [hitS, hd]; simp), if_pos (by simp [hitS, q.1, q.2])]
            cases hw : (W.filter (hitS x.pl)).getLast? with
            | some d =>
              have ne : W.filter (hitS x.pl) ≠ [] := fun z => by rw [z] at hw; simp at hw
              rw [List.getLast?_append, List.getLast?_append, List.getLast?_cons, hw]; rfl
            | none =>
              exfalso
              rw [List.getLast?_eq_none_iff] at hw
              have h0 := h.val (A ++ e :: W) x (Y ++ C) (by rw [e2]; simp) xd xs
              have e9 : lastS (A ++ e :: W) x.pl = lastS A x.pl := by
                unfold lastS
                rw [List.filter_append, List.filter_cons, if_neg (by rw [hitS, hd]; simp), hw, List.append_nil]
              unfold okV at h0
              rw [e9] at h0
              cases hq : lastS A x.pl with
              | some d =>
                rw [hq] at h0
                have := lt.1 d (lastS_sub hq).1
                rw [h0.2] at n1
                exact n1 this
              | none =>
                rw [hq] at h0
                cases hz : x.sr with
                | none => rw [hz] at n1; exact n1 (by show (-1 : Int) < e.nu; omega)
                | some z =>
                  rw [hz] at n1
                  exact n1 ((h0.2 z hz).2 e eIn)
          unfold okV at v ⊢
          rw [← key]; exact v
        · have key : lastS (A ++ e :: W) x.pl = lastS (A ++ { e with dn := true, gt := g, sr := o } :: W) x.pl := by
            unfold lastS
            rw [List.filter_append, List.filter_append, List.filter_cons, List.filter_cons, if_neg (by rw [hitS, hd]; simp), if_neg (by
              intro z
              simp only [hitS, Bool.and_eq_true, decide_eq_true_eq] at z
              exact q ⟨z.1.1, z.2⟩)]
          unfold okV at v ⊢
          rw [← key]; exact v
    · -- X ++ W = A
      cases W with
      | nil =>
        rw [List.nil_append, List.cons_eq_cons] at e2
        obtain ⟨rfl, rfl⟩ := e2
        rw [List.append_nil] at e1
        subst e1
        exact mono _ _ (hl xs)
      | cons w W =>
        rw [List.cons_append, List.cons_eq_cons] at e2
        obtain ⟨rfl, e2⟩ := e2
        refine mono _ _ (h.val X x (W ++ e :: (B ++ C)) ?_ xd xs)
        rw [e1]; simp
  · rcases sub x hx with rfl | m
    · exact hg xs
    · exact h.stn x m xs
theorem setW_map (fs : List FE) (k : FE → Bool) (row : FE → QR) (hrow : ∀ e, (row e).1 = e.nu) {A B : List FE} {e e' : FE} {oa ob : Option Int} (lt1 : ∀ a ∈ A, a.nu < e.nu) (lt2 : ∀ b ∈ B, e.nu < b.nu) (hk : k e = true) (hk' : k e' = true) (hr : row e' = (e.nu, oa, ob)) :
    ((A ++ e' :: B).filter k).map row = setW (((A ++ e :: B).filter k).map row) e.nu oa ob := by
  have keep : ∀ X : List FE, (∀ x ∈ X, x.nu ≠ e.nu) → ((X.filter k).map row).map (fun r => if r.1 = e.nu then (e.nu, oa, ob) else r) = (X.filter k).map row := fun X hX => by
    rw [List.map_map]
    refine List.map_congr_left fun x hx => ?_
    show (if (row x).1 = e.nu then _ else row x) = row x
    rw [if_neg (by rw [hrow]; exact hX x (List.mem_filter.mp hx).1)]
  rw [setW, List.filter_append, List.filter_append, List.filter_cons, List.filter_cons, if_pos hk, if_pos hk', List.map_append, List.map_append, List.map_cons, List.map_cons, List.map_append, List.map_cons, keep A (fun a ha => by have := lt1 a ha; omega), keep B (fun b hb => by have := lt2 b hb; omega), if_pos (hrow e), hr]
theorem keep_map (k : FE → Bool) (row : FE → QR) {A B : List FE} {e e' : FE} (hk : k e = false) (hk' : k e' = false) : ((A ++ e' :: B).filter k).map row = ((A ++ e :: B).filter k).map row := by
  rw [List.filter_append, List.filter_append, List.filter_cons, List.filter_cons, if_neg (by rw [hk']; exact Bool.false_ne_true), if_neg (by rw [hk]; exact Bool.false_ne_true)]
theorem ls_done {A B : List FE} {e : FE} {g o : Option Int} (lt1 : ∀ a ∈ A, a.nu < e.nu) (lt2 : ∀ b ∈ B, e.nu < b.nu) (hs : e.st = false) : lsOf (A ++ { e with dn := true, gt := g, sr := o } :: B) = setW (lsOf (A ++ e :: B)) e.nu (some e.pl) o ∧ ssOf (A ++ { e with dn := true, gt := g, sr := o } :: B) = ssOf (A ++ e :: B) :=
  ⟨setW_map [] (fun e => !e.st) lrow (fun _ => rfl) lt1 lt2 (by simp [hs]) (by simp [hs]) (by simp [lrow]), keep_map (fun e => e.st) srow hs hs⟩
theorem ss_done {A B : List FE} {e : FE} {g o : Option Int} (lt1 : ∀ a ∈ A, a.nu < e.nu) (lt2 : ∀ b ∈ B, e.nu < b.nu) (hs : e.st = true) : ssOf (A ++ { e with dn := true, gt := g, sr := o } :: B) = setW (ssOf (A ++ e :: B)) e.nu (some e.pl) (some e.wd) ∧ lsOf (A ++ { e with dn := true, gt := g, sr := o } :: B) = lsOf (A ++ e :: B) :=
  ⟨setW_map [] (fun e => e.st) srow (fun _ => rfl) lt1 lt2 hs hs (by simp [srow]), keep_map (fun e => !e.st) lrow (by simp [hs]) (by simp [hs])⟩
theorem filt_map (fs : List FE) (k : FE → Bool) (row : FE → QR) (hrow : ∀ e, (row e).1 = e.nu) (q : Int → Bool) : ((fs.filter k).map row).filter (fun r => q r.1) = ((fs.filter fun e => q e.nu).filter k).map row := by
  rw [List.filter_map, List.filter_filter, List.filter_filter]
  congr 1
  refine List.filter_congr fun x _ => ?_
  simp only [Function.comp, hrow]
  exact Bool.and_comm _ _
theorem ls_filt (fs : List FE) (q : Int → Bool) : (lsOf fs).filter (fun r => q r.1) = lsOf (fs.filter fun e => q e.nu) := filt_map fs _ lrow (fun _ => rfl) q
theorem ss_filt (fs : List FE) (q : Int → Bool) : (ssOf fs).filter (fun r => q r.1) = ssOf (fs.filter fun e => q e.nu) := filt_map fs _ srow (fun _ => rfl) q
theorem filt_first {fs : List FE} {e : FE} (lt : ∀ b ∈ fs, e.nu < b.nu) : ((e :: fs).filter fun x => decide (x.nu ≠ e.nu)) = fs := by
  rw [List.filter_cons, if_neg (by simp), List.filter_eq_self]
  intro x hx
  have := lt x hx
  exact decide_eq_true (by omega)
theorem filt_cut {A C : List FE} {f : FE} (lt1 : ∀ a ∈ A, a.nu < f.nu) (lt2 : ∀ b ∈ C, f.nu < b.nu) : ((A ++ f :: C).filter fun x => decide (x.nu < f.nu)) = A := by
  rw [List.filter_append, List.filter_cons, if_neg (by simp), List.filter_eq_self.mpr (fun x hx => decide_eq_true (lt1 x hx)), List.filter_eq_nil_iff.mpr (fun x hx => by have := lt2 x hx; simp; omega), List.append_nil]
theorem filt_one {A C : List FE} {f : FE} (lt1 : ∀ a ∈ A, a.nu < f.nu) (lt2 : ∀ b ∈ C, f.nu < b.nu) : ((A ++ f :: C).filter fun x => decide (x.nu = f.nu)) = [f] := by
  rw [List.filter_append, List.filter_cons, if_pos (by simp), List.filter_eq_nil_iff.mpr (fun x hx => by have := lt1 x hx; simp; omega), List.filter_eq_nil_iff.mpr (fun x hx => by have := lt2 x hx; simp; omega), List.nil_append]
/-- where a load of the queue read -/
def rdf (ls : List QR) (m : Int) : Int := ((ls.find? fun r => decide (r.1 = m) && r.2.2.isSome).bind fun r => r.2.2).getD (-1)
theorem rdf_eq {rs : List RW} {ms : List Int} {s0 : Nat} {A B : List FE} {f : FE} {nx : Int} (h : Fl rs ms s0 (A ++ f :: B) nx) (hs : f.st = false) (hd : f.dn = true) : rdf (lsOf (A ++ f :: B)) f.nu = f.sr.getD (-1) := by
  obtain ⟨h1, h2, h3⟩ := h.lt_of
  have no : ∀ X : List FE, (∀ x ∈ X, x.nu ≠ f.nu) → (lsOf X).find? (fun r => decide (r.1 = f.nu) && r.2.2.isSome) = none := fun X hX => by
    rw [List.find?_eq_none]
    intro r hr
    obtain ⟨x, hx, rfl⟩ := List.mem_map.mp hr
    have := hX x (List.mem_filter.mp hx).1
    simp [lrow, this]
  have e1 : lsOf (A ++ f :: B) = lsOf A ++ lrow f :: lsOf B := by
    rw [lsOf_app]
    congr 1
    rw [lsOf, List.filter_cons, if_pos (by simp [hs])]; rfl
  rw [rdf, e1, List.find?_append, no A (fun a ha => by have := h1 a ha; omega), Option.none_or, List.find?_cons]
  cases hq : f.sr with
  | some z => simp [lrow, hd, hq]
  | none =>
    have : (decide ((lrow f).1 = f.nu) && (lrow f).2.2.isSome) = false := by simp [lrow, hd, hq]
    rw [this, no B (fun b hb => by have := h2 b hb; omega)]; rfl
/-- how much is left -/
def mu (n s0 : Nat) (fs : List FE) : Nat := 3 * (n - s0) - (match fs with | [] => 0 | e :: _ => if e.dn then 2 else 1)
def sp_Lrows (K : PySem.W.Frag) : Sp := fun vs H Q _ => ∃ (a : Addr) (R : List (Addr × Ob)) (P : List Pf), vs = [.ref a] ∧ Own K H (pt a ++ R) P ∧
  ∀ (p : Addr) (rs : List RW) (H' : Hp) (P' : List Pf), Ps P P' → RowsOk rs → Own K H' (pt a ++ ((p, .L (rs.map rwD)) :: R)) P' → Q (.ref p) H'
theorem ok_Lrows (T : Txt K mg) : FnOk P w K mg base CX0 2 T.f_Lrows T.fd_Lrows ["_law_pot_here"] (sp_Lrows K) := by
  have G_Ldraw := ok_Ldraw (P := P) (w := w) (base := base) T
  refine T.F_Lrows.ok sc_Lrows (fun vs H Q E h => ?_) (fun cdv A outer s H vs Q E hr h => ?_)
  · obtain ⟨a, R, P, rfl, hO, k⟩ := h; rfl
  · obtain ⟨a, R, P, rfl, hO, k⟩ := h
    refine ⟨_, (pss_cons (ps_set (i := 1) sc_Lrows.nd rfl (Or.inl rfl) (pe_lst pa_nil))
        (pss_cons (ps_forS PassesOwn.never rfl (pi_range1 rfl T.m_range (pa_cons (pe_op op_add pe_int (pe_call G_Ldraw (hr.mono (by decide)) rfl T.g_Ldraw T.F_Ldraw.kp T.b_Ldraw .nil pass0 (pa_cons (pv 0) (pa_cons pe_int pa_nil)))) pa_nil)) (pg_name (i := 2) sc_Lrows.nd rfl (Or.inl rfl))
          (pss_one (ps_expr (pe_bm PySem.F.plainAttrs_list PySem.F.slot_list_append PySem.F.type_list_append mt_append (pv 1) (pa_cons (pe_tup (pa_cons (pe_cmpR op_eq (pe_call G_Ldraw (hr.mono (by decide)) rfl T.g_Ldraw T.F_Ldraw.kp T.b_Ldraw .nil pass0 (pa_cons (pv 0) (pa_cons pe_int pa_nil))) pe_int (nomark _)) (pa_cons (pe_call G_Ldraw (hr.mono (by decide)) rfl T.g_Ldraw T.F_Ldraw.kp T.b_Ldraw .nil pass0 (pa_cons (pv 0) (pa_cons pe_int pa_nil))) (pa_cons (pe_op op_add (pe_op op_mulW pe_int (pe_op op_add (pv 2) pe_int)) (pe_call G_Ldraw (hr.mono (by decide)) rfl T.g_Ldraw T.F_Ldraw.kp T.b_Ldraw .nil pass0 (pa_cons (pv 0) (pa_cons pe_int pa_nil)))) pa_nil)))) pa_nil)))))
        (pss_one (ps_ret (pv 1))))), ?_⟩
    clear G_Ldraw
    clear hr
    walk_at "go"
    intro d5 H1 a0 a1 hO
    walk_at "go"
    refine ⟨for_range (n := (5 + d5).toNat) (fun i σ H' => Stop (∃ (p : Addr) (t2 : Option V) (rs : List RW) (P' : List Pf), σ = [some (.ref a), some (.ref p), t2] ∧ Ps P P' ∧ rs.length = i ∧ (∀ r ∈ rs, (0 ≤ r.2.1 ∧ r.2.1 < 3) ∧ (0 ≤ r.2.2 ∧ r.2.2 < 65536)) ∧ Own K H' (pt a ++ ((p, .L (rs.map rwD)) :: R)) P')) ⟨⟨_, none, [], P, rfl, Ps.refl, rfl, (fun _ h => nomatch h), ?_⟩⟩ (fun i σ H' hi h => ?_) (fun σ H' h => ?_)⟩
    · walk_at "fin"
      all_goals exact Dv.nil
    · clear hO
      obtain ⟨p, t2, rs, P', rfl, sp, hl, hok, hO⟩ := h.h
      clear h
      obtain ⟨vr, o1⟩ := hO.openL (a := p) (by walk_at "mem")
      replace hO := o1 _ (by walk_at "setat")
      clear o1
      have hvr := (hO.pdp List.mem_cons_self).len
      rw [List.length_map] at hvr
      have szr : vr.length < sizeLine := size_lt (by omega)
      walk_at "go"
      intro e2 H2 b0 b1 hO
      walk_at "go"
      intro e3 H3 c0 c1 hO
      walk_at "go"
      intro e9 H4 g0 g1 hO
      walk_at "go"
      refine ⟨⟨_, _, rs ++ [(decide (V.int e2 = V.int 0), e3, 10 * (0 + ↑i + 1) + e9)], (.tup p [V.bl (decide (V.int e2 = V.int 0)), V.int e3, V.int (10 * (0 + ↑i + 1) + e9)] :: .dp vr (rs.map rwD) :: P'), rfl, sp.trans (Ps.skip (Ps.skip Ps.refl)), by simp [hl], fun r hr => ?_, ?_⟩⟩
      · rcases List.mem_append.mp hr with m | m
        · exact hok r m
        · rw [List.mem_singleton.mp m]
          exact ⟨⟨c0, c1⟩, ⟨by show 0 ≤ 10 * (0 + (i : Int) + 1) + e9; omega, by show 10 * (0 + (i : Int) + 1) + e9 < 65536; omega⟩⟩
      · rw [List.map_append]
        walk_at "fin"
        exact Dv.app (Dv.of (List.mem_cons_of_mem _ List.mem_cons_self)) (Dv.cons (Dv1.tup List.mem_cons_self (Dv.cons (Dv1.bl _) (Dv.cons (Dv1.int _) (Dv.cons (Dv1.int _) Dv.nil)))) Dv.nil)
    · clear hO
      obtain ⟨p, t2, rs, P', rfl, sp, hl, hok, hO⟩ := h.h
      clear h
      walk_at "go"
      refine k p rs _ P' sp ⟨by omega, by omega, fun r hr => (hok r hr).1, fun r hr => (hok r hr).2⟩ ?_
      walk_at "fin"
end
end K77

set_option Elab.async false
set_option linter.all false
set_option maxRecDepth 100000
set_option maxHeartbeats 8000000

namespace K77
open PySem PySem.Spec PyProof.Rows L2 Hx 
local macro_rules | `(tactic| walk_at "sm") => `(tactic| repeat' (first | assumption | apply Hx.Same.upd | exact L2.Same.refl _ | apply same_trans'))
local macro_rules | `(tactic| walk_at "hp") => `(tactic| repeat' (first | assumption | exact upd_same | apply old_upd | apply same_at))
local macro_rules | `(tactic| walk_at "rd") => `(tactic| repeat' (first | rfl | apply Exists.intro | apply And.intro | refine iteT ?_ | refine iteF ?_ | exact upd_same | exact SqL.of (by assumption) | exact SqL.of upd_same | exact SqT.of upd_same | exact SqT.of (by assumption) | ((with_reducible show (_ : Int) < _); omega) | ((with_reducible show (_ : Int) ≤ _); omega) | (show (_ : Prop); assumption) | exact Or.inl ⟨_, by assumption, rfl⟩ | exact Or.inl ⟨rfl, _, SqL.of (by assumption)⟩ | exact Or.inl ⟨rfl, _, SqL.of upd_same⟩ | apply old_upd | apply Hx.SqL.new | apply tyl_new | apply Pot.new | exact same_at (by assumption) (by assumption) | exact Or.inl (SqL.of (by assumption)) | exact Or.inl (by assumption) | exact Or.inl (SqL.of upd_same) | exact size_le (Nat.le_of_ble_eq_true rfl) | exact Nat.le_of_ble_eq_true rfl | exact True.intro | exact Or.inl rfl | exact Or.inr rfl | (show (_ : Prop); omega) | (show (_ : Prop); dsimp only; omega) | exact mulw64 (by omega) (by omega) | exact mulw64 (by (try dsimp only); omega) (by (try dsimp only); omega)))
set_option hygiene false in
local macro_rules | `(tactic| walk_at "fl") => `(tactic| simp only [pu_Queues_load_rooms, pi_Queues_load_rooms, pu_Queues_store_rooms, pi_Queues_store_rooms, pu_Queues_loads, pi_Queues_loads, pu_Queues_stores, pi_Queues_stores] at hO)
local macro_rules | `(tactic| walk_at "mem") => `(tactic| ((repeat (first | exact List.Mem.head _ | apply List.Mem.tail | fail)); done))
local macro_rules | `(tactic| walk_at "setat") => `(tactic| ((repeat (first | (with_reducible exact At.head) | (with_reducible apply At.tail) | (with_reducible apply At.app) | fail)); done))
set_option hygiene false in
local macro_rules | `(tactic| walk_at "dv") => `(tactic| ((repeat' (first | exact Dv.nil | exact Dv.of (by walk_at "mem") | exact Dv.ints _ | exact Dv1.of (by walk_at "mem") | exact Dv1.int _ | exact Dv1.non | exact Dv1.bl _ | exact Dv1.str _ | (with_reducible apply Dv.cons) | refine Dv1.tup (by walk_at "mem") ?_ | refine Dv1.lst (by walk_at "mem") ?_ | (with_reducible apply Dv.app) | fail)); done))
local macro_rules | `(tactic| walk_at "ft") => `(tactic| (first | (with_reducible exact Ft.refl) | ((with_reducible apply Ft.toL); focus walk_at "dv") | ((with_reducible apply Ft.toS); focus assumption) | (with_reducible apply Ft.lst) | (with_reducible apply Ft.Le) | (with_reducible apply Ft.dK) | (with_reducible apply Ft.De) | (with_reducible apply Ft.ins) | (with_reducible apply Ft.toL) | (with_reducible apply Ft.toS) | (with_reducible apply Ft.toD) | fail))
local macro_rules | `(tactic| walk_at "sbL") => `(tactic| repeat' (first | (with_reducible exact Sb.refl _) | exact Sb.nil | (with_reducible apply Sb.cons) | (with_reducible apply Sb.app) | (with_reducible exact Pk.one) | (with_reducible exact Pk.here) | (with_reducible exact Pk.all) | (with_reducible apply Pk.skip1) | (with_reducible apply Pk.skipB) | (with_reducible apply Sb.skip) | (with_reducible apply Sb.skipB) | ((with_reducible show Ft _ _ _ _); walk_at "ft") | ((with_reducible show (_ : List _) = _); (first | rfl | (simp [List.map_set, List.map_append]; done) | fail)) | fail))
local macro_rules | `(tactic| walk_at "sb") => `(tactic| ((walk_at "sbL"); done))
local macro_rules | `(tactic| walk_at "ps") => `(tactic| ((repeat' (first | (with_reducible exact Ps.refl) | exact Ps.nil | (with_reducible apply Ps.cons) | exact List.Mem.head _ | apply List.Mem.tail | (with_reducible apply Ps.skip) | fail)); done))
set_option hygiene false in
local macro_rules | `(tactic| walk_at "at") => `(tactic| first | assumption | exact Own.raw hO (by walk_at "mem") | exact Own.ptup hO (by walk_at "mem") | exact Own.plst hO (by walk_at "mem") | fail)
set_option hygiene false in
local macro_rules | `(tactic| walk_at "st") => `(tactic| (rw [upd_mkO hO]; generalize e : updX _ _ _ = H1; (first | ((apply Own.cset hO e); (focus walk_at "setat"); (try clear hO e); intro hO) | ((apply Own.cnewT hO e); (focus assumption); (try clear hO e); intro hO) | ((apply Own.cnew hO e); (focus assumption); (try clear hO e); intro hO) | fail)))
set_option hygiene false in
local macro_rules | `(tactic| walk_at "mk") => `(tactic| (intro p1 p2 f1 f2 f3; rw [upd_mkO hO]; generalize e : upd (updX _ _ _) _ _ = H1; apply Own.cmake hO f1 f2 f3 e; (try clear hO e); intro hO))
set_option hygiene false in
local macro_rules | `(tactic| walk_at "own") => `(tactic| (first | ((apply Own.sub hO); (focus walk_at "sb"); (focus walk_at "ps")) | ((apply Own.sub hF); (focus walk_at "sb"); (focus walk_at "ps")) | fail))
set_option hygiene false in
local macro_rules | `(tactic| walk_at "fin") => `(tactic| (refine Own.sub hO ?_ (by walk_at "ps"); walk_at "sbL"))
set_option hygiene false in
local macro_rules | `(tactic| walk_at "g1") => `(tactic| (first
 | ((with_reducible show (_ : Option HO) = _); walk_at "at")
 | ((with_reducible show (_ : Int) < _); omega) | ((with_reducible show (_ : Int) ≤ _); omega)
 | ((with_reducible show (_ : Nat) < _); (first | assumption | exact Nat.le_of_ble_eq_true rfl | exact size_lt (Nat.le_of_ble_eq_true rfl) | omega | (simp; done) | (simp; omega) | fail))
 | ((with_reducible show (_ : Nat) ≤ _); (first | assumption | exact Nat.le_of_ble_eq_true rfl | exact size_le (Nat.le_of_ble_eq_true rfl) | omega | (simp; done) | (simp; omega) | fail))
 | ((with_reducible show Own _ _ _ _); (first | walk_at "own" | (walk_at "st"; walk_at "own") | fail))
 | ((with_reducible show SqL _ _ _ _); (first | assumption | exact SqL.of (by walk_at "at") | fail))
 | ((with_reducible show SqT _ _ _ _); (first | assumption | exact hO.psq (by walk_at "mem") | exact SqT.of (by walk_at "at") | fail))
  | ((with_reducible show Cls _ _); exact Txt.cl_Queues T) | ((with_reducible show NoAttr _ _ _); exact Txt.n_Queues_load_rooms T) | (with_reducible exact gt_Queues_load_rooms) | ((with_reducible show NoAttr _ _ _); exact Txt.n_Queues_store_rooms T) | (with_reducible exact gt_Queues_store_rooms) | ((with_reducible show NoAttr _ _ _); exact Txt.n_Queues_loads T) | (with_reducible exact gt_Queues_loads) | ((with_reducible show NoAttr _ _ _); exact Txt.n_Queues_stores T) | (with_reducible exact gt_Queues_stores)  | ((with_reducible show V.ref _ = V.ref _); (first | rfl | fail))
 | ((with_reducible show DGet _ _ _ _); (first | exact DGet.ki (by walk_at "at") (by assumption) | exact DGet.kiF (by walk_at "at") (by assumption) | fail))
 | ((with_reducible show DPut _ _ _ _ _); exact DPut.ki (by walk_at "at") (by assumption))
 | ((with_reducible show Rd _ _ _); (first | exact Or.inl (by walk_at "at") | exact Or.inr ⟨_, by walk_at "at"⟩ | fail))
 | ((with_reducible show (∃ _ : List (Key × V), _) ∨ _); refine Or.inl ⟨_, by walk_at "at", ?_⟩)
 | ((with_reducible show Dv _ _ _ _); focus walk_at "dv") | ((with_reducible show Dv1 _ _ _ _); focus walk_at "dv")
 | ((with_reducible show IsD _ _); exact Or.inl ⟨_, Or.inl (by walk_at "at")⟩)
 | ((with_reducible show V.int _ = kV _); exact kV_int)
 | ((with_reducible show Option.isSome _ = true); (first | exact isSome_ofV (by assumption) | assumption | fail))
 | ((with_reducible show SqL _ _ _ _ ∨ SqT _ _ _ _); (first | exact Or.inl (by assumption) | exact Or.inr (by assumption) | exact Or.inl (SqL.of (by walk_at "at")) | exact Or.inr (SqT.of (by walk_at "at")) | fail))
 | ((with_reducible show Dp _ _ _ _); (first | assumption | exact hO.dpL (by walk_at "mem") | exact .lst (SqL.of (by walk_at "at")) (hO.all (by walk_at "dv")) | exact hO.one (by walk_at "dv") | fail))
 | ((with_reducible show TruV _ _ _ _); (first | exact Or.inl ⟨_, SqL.of (by walk_at "at"), rfl⟩ | exact Or.inr (Or.inr ⟨_, by walk_at "at", rfl⟩) | exact Or.inr (Or.inl ⟨_, SqT.of (by walk_at "at"), rfl⟩) | fail))
 | ((with_reducible show RgOk _ _); exact RgOk.of_le (by omega) (by omega) (by omega) (by omega))
 | rfl | (with_reducible assumption) | apply And.intro | apply Exists.intro | refine iteT ?_ | refine iteF ?_
 | (walk_at "st"; (try walk_at "fl"))
 | ((with_reducible show ∀ _ : Addr, _ = none → _); (fail_if_success (with_reducible show ∀ _ : Addr, _ = none → ∃ _ : Nat → Nat → Hp → Prop, _)); intro p fp; walk_at "st")
 | (refine Or.inl ⟨SqL.of (by walk_at "at"), ?_⟩) | (refine Or.inr ⟨SqT.of (by walk_at "at"), ?_⟩) | exact Or.inl ⟨_, by walk_at "at", rfl⟩ | exact Or.inl ⟨rfl, _, SqL.of (by walk_at "at")⟩ | exact tyl_of (by walk_at "at") | exact Or.inl (SqL.of (by walk_at "at")) | exact Or.inr (SqT.of (by walk_at "at")) | exact Or.inl (by walk_at "at") | exact size_le (Nat.le_of_ble_eq_true rfl) | exact Nat.le_of_ble_eq_true rfl | exact True.intro | exact Or.inl rfl | exact Or.inr rfl | (show (_ : Prop); assumption) | (show (_ : Prop); omega) | (show (_ : Prop); dsimp only; omega) | exact mulw64 (by omega) (by omega) | exact mulw64 (by (try dsimp only); omega) (by (try dsimp only); omega) | fail))
local macro_rules | `(tactic| walk_at "go") => `(tactic| repeat walk_at "g1")

section
variable {P : Program} {w : World} {K : PySem.W.Frag} {mg : Str → Option Value} {base : Heap}
theorem opnW {K : PySem.W.Frag} {H : Hp} {L : List (Addr × Ob)} {P : List Pf} {v : V} {r : RW} (h : Own K H L P) (x : Dv1 K P v (rwD r)) : ∃ t, v = .ref t ∧ Own K H L (.sq t [.bl r.1, .int r.2.1, .int r.2.2] :: P) := h.opn x rfl
theorem ixR {n i : Nat} (h : i < n) : ixN n (i : Int) = some i := by
  unfold ixN
  rw [if_pos (by omega), if_pos (by omega), Int.toNat_natCast]
def sp_Lplain (K : PySem.W.Frag) : Sp := fun vs H Q _ => ∃ (d : Addr) (rs : List RW) (R : List (Addr × Ob)) (P : List Pf), vs = [.ref d] ∧ Own K H ((d, .L (rs.map rwD)) :: R) P ∧ RowsOk rs ∧
  ∀ (t q m : Addr) (H' : Hp) (P' : List Pf), Ps P P' → Pf.tup t [.ref q, .ref m] ∈ P' → Own K H' ((q, .raw (.lst (((List.range rs.length).map fun k => dueK rs k).map oV))) :: (m, .raw (.lst ((memK rs rs.length).map V.int))) :: (d, .L (rs.map rwD)) :: R) P' → Q (.ref t) H'
theorem ok_Lplain (T : Txt K mg) : FnOk P w K mg base CX0 1 T.f_Lplain T.fd_Lplain ["_law_rows_here"] (sp_Lplain K) := by
  refine T.F_Lplain.ok sc_Lplain (fun vs H Q E h => ?_) (fun cdv A outer s H vs Q E hr h => ?_)
  · obtain ⟨d, rs, R, P, rfl, hO, ok, k⟩ := h; rfl
  · obtain ⟨d, rs, R, P, rfl, hO, ok, k⟩ := h
    refine ⟨_, (pss_cons (ps_par (i := 1) (j := 2) rfl sc_Lplain.nd rfl rfl (by decide) rfl rfl (pa_cons (pe_lst (pa_cons pe_int (pa_cons pe_int (pa_cons pe_int pa_nil)))) (pa_cons (pe_lst pa_nil) pa_nil)) (by rfl))
        (pss_cons (ps_forS PassesOwn.never rfl (pi_list (pv 0)) (pg_tup rfl (pgs_cons (pg_name (i := 3) sc_Lplain.nd rfl (Or.inl rfl)) (pgs_cons (pg_name (i := 4) sc_Lplain.nd rfl (Or.inl rfl)) (pgs_cons (pg_name (i := 5) sc_Lplain.nd rfl (Or.inl rfl)) pgs_nil))))
          (pss_cons (ps_if (pt_val (pv 3))
            (pss_one (ps_asg (pv 5) (pg_sub (pv 1) (pv 4) set_list)))
            pss_nil)
          (pss_one (ps_expr (pe_bm PySem.F.plainAttrs_list PySem.F.slot_list_append PySem.F.type_list_append mt_append (pv 2) (pa_cons (pe_ifExp (pt_val (pv 3)) pe_non (pe_ix ix_list (pv 1) (pv 4) (fun _ _ => rfl))) pa_nil))))))
        (pss_one (ps_ret (pe_tup (pa_cons (pv 2) (pa_cons (pv 1) pa_nil))))))), ?_⟩
    clear hr
    obtain ⟨vr, o1⟩ := hO.openL (a := d) (by walk_at "mem")
    replace hO := o1 _ (by walk_at "setat")
    clear o1
    have hvr := (hO.pdp List.mem_cons_self).len
    rw [List.length_map] at hvr
    walk_at "go"
    refine ⟨for_list (xs := vr) (fun i σ H' => Stop (∃ (m q : Addr) (t4 t5 t6 : Option V) (P' : List Pf), σ = [some (.ref d), some (.ref m), some (.ref q), t4, t5, t6] ∧ Ps (.dp vr (rs.map rwD) :: P) P' ∧ Own K H' ((q, .raw (.lst (((List.range i).map fun k => dueK rs k).map oV))) :: (m, .raw (.lst ((memK rs i).map V.int))) :: (d, .raw (.lst vr)) :: R) P')) ⟨⟨_, _, none, none, none, _, rfl, Ps.refl, hO⟩⟩ (fun i σ H' hi h => ?_) (fun i v σ H' hv h => ?_) (fun σ H' h => ?_)⟩
    · obtain ⟨m, q, t4, t5, t6, P', rfl, sp, hO⟩ := h.h
      exact SqL.of (hO.raw (by walk_at "mem"))
    · clear hO
      obtain ⟨m, q, t4, t5, t6, P', rfl, sp, hO⟩ := h.h
      clear h
      have hi : i < rs.length := by have := (List.getElem?_eq_some_iff.mp hv).1; omega
      obtain ⟨r, hr⟩ : ∃ r, rs[i]? = some r := ⟨rs[i], List.getElem?_eq_getElem _⟩
      obtain ⟨t, rfl, hO⟩ := opnW hO (r := r) (Dv.get (vs := vr) (ds := rs.map rwD) (Dv.of (sp _ List.mem_cons_self)) hv (by rw [List.getElem?_map, hr]; rfl))
      have hp := ok.pl r (List.mem_of_getElem? hr)
      have hms := memK_succ hr
      have hdu : dueK rs i = dueR (memK rs i) r := by rw [dueK, hr]; rfl
      have hm3 := memK_len rs i
      have hrg : ((List.range (i + 1)).map fun k => dueK rs k).map oV = (((List.range i).map fun k => dueK rs k).map oV) ++ [oV (dueK rs i)] := by rw [List.range_succ, List.map_append, List.map_append]; rfl
      rw [hrg, hms, hdu]
      obtain ⟨st, pl, wd⟩ := r
      dsimp only at hO hp hms hdu ⊢
      obtain ⟨j, rfl⟩ := Int.eq_ofNat_of_zero_le hp.1
      have hj : j < 3 := by omega
      have szq : (((List.range i).map fun k => dueK rs k).map oV).length < sizeLine := size_lt (by rw [List.length_map, List.length_map, List.length_range]; have := ok.n9; omega)
      have hix : ixN ((memK rs i).map V.int).length (j : Int) = some j := ixR (by rw [List.length_map]; omega)
      generalize memK rs i = ms at hO hm3 hix ⊢
      have ad : atI (ms.map V.int) (j : Int) = some (V.int (ms.getD j 0)) := atI_nat (by rw [List.getElem?_map, List.getElem?_eq_getElem (by omega), List.getD_eq_getElem?_getD, List.getElem?_eq_getElem (by omega)]; rfl)
      cases st with
      | true =>
        walk_at "go"
        refine ⟨⟨_, _, _, _, _, (.sq t [.bl true, .int (j : Int), .int wd] :: P'), rfl, sp.trans (Ps.skip Ps.refl), ?_⟩⟩
        rw [show (putM ms (true, (j : Int), wd)).map V.int = (ms.map V.int).set j (.int wd) from by rw [putM]; simp [List.map_set]]
        walk_at "fin"
      | false =>
        walk_at "go"
        refine ⟨⟨_, _, _, _, _, (.sq t [.bl false, .int (j : Int), .int wd] :: P'), rfl, sp.trans (Ps.skip Ps.refl), ?_⟩⟩
        walk_at "fin"
    · clear hO
      obtain ⟨m, q, t4, t5, t6, P', rfl, sp, hO⟩ := h.h
      clear h
      rw [hvr] at hO
      walk_at "go"
      refine k _ q m _ _ ((Ps.skip Ps.refl).trans (sp.trans (Ps.skip Ps.refl))) List.mem_cons_self ?_
      walk_at "fin"
      exact Dv.of (List.mem_cons_of_mem _ (sp _ List.mem_cons_self))
end
end K77

set_option Elab.async false
set_option linter.all false
set_option maxRecDepth 100000
set_option maxHeartbeats 8000000

namespace K77
open PySem PySem.Spec PyProof.Rows L2 Hx 
local macro_rules | `(tactic| walk_at "sm") => `(tactic| repeat' (first | assumption | apply Hx.Same.upd | exact L2.Same.refl _ | apply same_trans'))
local macro_rules | `(tactic| walk_at "hp") => `(tactic| repeat' (first | assumption | exact upd_same | apply old_upd | apply same_at))
local macro_rules | `(tactic| walk_at "rd") => `(tactic| repeat' (first | rfl | apply Exists.intro | apply And.intro | refine iteT ?_ | refine iteF ?_ | exact upd_same | exact SqL.of (by assumption) | exact SqL.of upd_same | exact SqT.of upd_same | exact SqT.of (by assumption) | ((with_reducible show (_ : Int) < _); omega) | ((with_reducible show (_ : Int) ≤ _); omega) | (show (_ : Prop); assumption) | exact Or.inl ⟨_, by assumption, rfl⟩ | exact Or.inl ⟨rfl, _, SqL.of (by assumption)⟩ | exact Or.inl ⟨rfl, _, SqL.of upd_same⟩ | apply old_upd | apply Hx.SqL.new | apply tyl_new | apply Pot.new | exact same_at (by assumption) (by assumption) | exact Or.inl (SqL.of (by assumption)) | exact Or.inl (by assumption) | exact Or.inl (SqL.of upd_same) | exact size_le (Nat.le_of_ble_eq_true rfl) | exact Nat.le_of_ble_eq_true rfl | exact True.intro | exact Or.inl rfl | exact Or.inr rfl | (show (_ : Prop); omega) | (show (_ : Prop); dsimp only; omega) | exact mulw64 (by omega) (by omega) | exact mulw64 (by (try dsimp only); omega) (by (try dsimp only); omega)))
set_option hygiene false in
local macro_rules | `(tactic| walk_at "fl") => `(tactic| simp only [pu_Queues_load_rooms, pi_Queues_load_rooms, pu_Queues_store_rooms, pi_Queues_store_rooms, pu_Queues_loads, pi_Queues_loads, pu_Queues_stores, pi_Queues_stores] at hO)
local macro_rules | `(tactic| walk_at "mem") => `(tactic| ((repeat (first | exact List.Mem.head _ | apply List.Mem.tail | fail)); done))
local macro_rules | `(tactic| walk_at "setat") => `(tactic| ((repeat (first | (with_reducible exact At.head) | (with_reducible apply At.tail) | (with_reducible apply At.app) | fail)); done))
set_option hygiene false in
local macro_rules | `(tactic| walk_at "dv") => `(tactic| ((repeat' (first | exact Dv.nil | exact Dv.of (by walk_at "mem") | exact Dv.ints _ | exact Dv1.of (by walk_at "mem") | exact Dv1.int _ | exact Dv1.non | exact Dv1.bl _ | exact Dv1.str _ | (with_reducible apply Dv.cons) | refine Dv1.tup (by walk_at "mem") ?_ | refine Dv1.lst (by walk_at "mem") ?_ | (with_reducible apply Dv.app) | fail)); done))
local macro_rules | `(tactic| walk_at "ft") => `(tactic| (first | (with_reducible exact Ft.refl) | ((with_reducible apply Ft.toL); focus walk_at "dv") | ((with_reducible apply Ft.toS); focus assumption) | (with_reducible apply Ft.lst) | (with_reducible apply Ft.Le) | (with_reducible apply Ft.dK) | (with_reducible apply Ft.De) | (with_reducible apply Ft.ins) | (with_reducible apply Ft.toL) | (with_reducible apply Ft.toS) | (with_reducible apply Ft.toD) | fail))
local macro_rules | `(tactic| walk_at "sbL") => `(tactic| repeat' (first | (with_reducible exact Sb.refl _) | exact Sb.nil | (with_reducible apply Sb.cons) | (with_reducible apply Sb.app) | (with_reducible exact Pk.one) | (with_reducible exact Pk.here) | (with_reducible exact Pk.all) | (with_reducible apply Pk.skip1) | (with_reducible apply Pk.skipB) | (with_reducible apply Sb.skip) | (with_reducible apply Sb.skipB) | ((with_reducible show Ft _ _ _ _); walk_at "ft") | ((with_reducible show (_ : List _) = _); (first | rfl | (simp [List.map_set, List.map_append]; done) | fail)) | fail))
local macro_rules | `(tactic| walk_at "sb") => `(tactic| ((walk_at "sbL"); done))
local macro_rules | `(tactic| walk_at "ps") => `(tactic| ((repeat' (first | (with_reducible exact Ps.refl) | exact Ps.nil | (with_reducible apply Ps.cons) | exact List.Mem.head _ | apply List.Mem.tail | (with_reducible apply Ps.skip) | fail)); done))
set_option hygiene false in
local macro_rules | `(tactic| walk_at "at") => `(tactic| first | assumption | exact Own.raw hO (by walk_at "mem") | exact Own.ptup hO (by walk_at "mem") | exact Own.plst hO (by walk_at "mem") | fail)
set_option hygiene false in
local macro_rules | `(tactic| walk_at "st") => `(tactic| (rw [upd_mkO hO]; generalize e : updX _ _ _ = H1; (first | ((apply Own.cset hO e); (focus walk_at "setat"); (try clear hO e); intro hO) | ((apply Own.cnewT hO e); (focus assumption); (try clear hO e); intro hO) | ((apply Own.cnew hO e); (focus assumption); (try clear hO e); intro hO) | fail)))
set_option hygiene false in
local macro_rules | `(tactic| walk_at "mk") => `(tactic| (intro p1 p2 f1 f2 f3; rw [upd_mkO hO]; generalize e : upd (updX _ _ _) _ _ = H1; apply Own.cmake hO f1 f2 f3 e; (try clear hO e); intro hO))
set_option hygiene false in
local macro_rules | `(tactic| walk_at "own") => `(tactic| (first | ((apply Own.sub hO); (focus walk_at "sb"); (focus walk_at "ps")) | ((apply Own.sub hF); (focus walk_at "sb"); (focus walk_at "ps")) | fail))
set_option hygiene false in
local macro_rules | `(tactic| walk_at "fin") => `(tactic| (refine Own.sub hO ?_ (by walk_at "ps"); walk_at "sbL"))
set_option hygiene false in
local macro_rules | `(tactic| walk_at "g1") => `(tactic| (first
 | ((with_reducible show (_ : Option HO) = _); walk_at "at")
 | ((with_reducible show (_ : Int) < _); omega) | ((with_reducible show (_ : Int) ≤ _); omega)
 | ((with_reducible show (_ : Nat) < _); (first | assumption | exact Nat.le_of_ble_eq_true rfl | exact size_lt (Nat.le_of_ble_eq_true rfl) | omega | (simp; done) | (simp; omega) | fail))
 | ((with_reducible show (_ : Nat) ≤ _); (first | assumption | exact Nat.le_of_ble_eq_true rfl | exact size_le (Nat.le_of_ble_eq_true rfl) | omega | (simp; done) | (simp; omega) | fail))
 | ((with_reducible show Own _ _ _ _); (first | walk_at "own" | (walk_at "st"; walk_at "own") | fail))
 | ((with_reducible show SqL _ _ _ _); (first | assumption | exact SqL.of (by walk_at "at") | fail))
 | ((with_reducible show SqT _ _ _ _); (first | assumption | exact hO.psq (by walk_at "mem") | exact SqT.of (by walk_at "at") | fail))
  | ((with_reducible show Cls _ _); exact Txt.cl_Queues T) | ((with_reducible show NoAttr _ _ _); exact Txt.n_Queues_load_rooms T) | (with_reducible exact gt_Queues_load_rooms) | ((with_reducible show NoAttr _ _ _); exact Txt.n_Queues_store_rooms T) | (with_reducible exact gt_Queues_store_rooms) | ((with_reducible show NoAttr _ _ _); exact Txt.n_Queues_loads T) | (with_reducible exact gt_Queues_loads) | ((with_reducible show NoAttr _ _ _); exact Txt.n_Queues_stores T) | (with_reducible exact gt_Queues_stores)  | ((with_reducible show V.ref _ = V.ref _); (first | rfl | fail))
 | ((with_reducible show DGet _ _ _ _); (first | exact DGet.ki (by walk_at "at") (by assumption) | exact DGet.kiF (by walk_at "at") (by assumption) | fail))
 | ((with_reducible show DPut _ _ _ _ _); exact DPut.ki (by walk_at "at") (by assumption))
 | ((with_reducible show Rd _ _ _); (first | exact Or.inl (by walk_at "at") | exact Or.inr ⟨_, by walk_at "at"⟩ | fail))
 | ((with_reducible show (∃ _ : List (Key × V), _) ∨ _); refine Or.inl ⟨_, by walk_at "at", ?_⟩)
 | ((with_reducible show Dv _ _ _ _); focus walk_at "dv") | ((with_reducible show Dv1 _ _ _ _); focus walk_at "dv")
 | ((with_reducible show IsD _ _); exact Or.inl ⟨_, Or.inl (by walk_at "at")⟩)
 | ((with_reducible show V.int _ = kV _); exact kV_int)
 | ((with_reducible show Option.isSome _ = true); (first | exact isSome_ofV (by assumption) | assumption | fail))
 | ((with_reducible show SqL _ _ _ _ ∨ SqT _ _ _ _); (first | exact Or.inl (by assumption) | exact Or.inr (by assumption) | exact Or.inl (SqL.of (by walk_at "at")) | exact Or.inr (SqT.of (by walk_at "at")) | fail))
 | ((with_reducible show Dp _ _ _ _); (first | assumption | exact hO.dpL (by walk_at "mem") | exact .lst (SqL.of (by walk_at "at")) (hO.all (by walk_at "dv")) | exact hO.one (by walk_at "dv") | fail))
 | ((with_reducible show TruV _ _ _ _); (first | exact Or.inl ⟨_, SqL.of (by walk_at "at"), rfl⟩ | exact Or.inr (Or.inr ⟨_, by walk_at "at", rfl⟩) | exact Or.inr (Or.inl ⟨_, SqT.of (by walk_at "at"), rfl⟩) | fail))
 | ((with_reducible show RgOk _ _); exact RgOk.of_le (by omega) (by omega) (by omega) (by omega))
 | rfl | (with_reducible assumption) | apply And.intro | apply Exists.intro | refine iteT ?_ | refine iteF ?_
 | (walk_at "st"; (try walk_at "fl"))
 | ((with_reducible show ∀ _ : Addr, _ = none → _); (fail_if_success (with_reducible show ∀ _ : Addr, _ = none → ∃ _ : Nat → Nat → Hp → Prop, _)); intro p fp; walk_at "st")
 | (refine Or.inl ⟨SqL.of (by walk_at "at"), ?_⟩) | (refine Or.inr ⟨SqT.of (by walk_at "at"), ?_⟩) | exact Or.inl ⟨_, by walk_at "at", rfl⟩ | exact Or.inl ⟨rfl, _, SqL.of (by walk_at "at")⟩ | exact tyl_of (by walk_at "at") | exact Or.inl (SqL.of (by walk_at "at")) | exact Or.inr (SqT.of (by walk_at "at")) | exact Or.inl (by walk_at "at") | exact size_le (Nat.le_of_ble_eq_true rfl) | exact Nat.le_of_ble_eq_true rfl | exact True.intro | exact Or.inl rfl | exact Or.inr rfl | (show (_ : Prop); assumption) | (show (_ : Prop); omega) | (show (_ : Prop); dsimp only; omega) | exact mulw64 (by omega) (by omega) | exact mulw64 (by (try dsimp only); omega) (by (try dsimp only); omega) | fail))
local macro_rules | `(tactic| walk_at "go") => `(tactic| repeat walk_at "g1")

section
variable {P : Program} {w : World} {K : PySem.W.Frag} {mg : Str → Option Value} {base : Heap}
def sp_Lrdf (K : PySem.W.Frag) (C : Addr) : Sp := fun vs H Q _ => ∃ (x dx l s : Addr) (a b m : Int) (ls ss : List QR) (R : List (Addr × Ob)) (P : List Pf), vs = [.ref x, .int m] ∧ Own K H (qu C x dx l s a b ls ss ++ R) P ∧ ls.length ≤ 100 ∧
  ∀ (H' : Hp) (P' : List Pf), Ps P P' → Own K H' (qu C x dx l s a b ls ss ++ R) P' → Q (.int (rdf ls m)) H'
theorem ok_Lread_from (T : Txt K mg) : FnOk P w K mg base CX0 2 T.f_Lread_from T.fd_Lread_from ["_law_queues", "_law_number"] (sp_Lrdf K T.C_Queues) := by
  have G_Queues_loads := ok_Queues_loads (P := P) (w := w) (base := base) T
  refine T.F_Lread_from.ok sc_Lread_from (fun vs H Q E h => ?_) (fun cdv A outer s H vs Q E hr h => ?_)
  · obtain ⟨x, dx, l, s, a, b, m, ls, ss, R, P, rfl, hO, hl1, k⟩ := h; rfl
  · obtain ⟨x, dx, l, s, a, b, m, ls, ss, R, P, rfl, hO, hl1, k⟩ := h
    refine ⟨_, (pss_cons (ps_forS PassesOwn.never rfl (pi_list (pe_meth0 (pv 0) T.cl_Queues T.me_Queues_loads G_Queues_loads (hr.mono (by decide)) T.b_Queues_loads .nil pass0)) (pg_tup rfl (pgs_cons (pg_name (i := 2) sc_Lread_from.nd rfl (Or.inl rfl)) (pgs_cons (pg_name (i := 3) sc_Lread_from.nd rfl (Or.inl rfl)) (pgs_cons (pg_name (i := 4) sc_Lread_from.nd rfl (Or.inl rfl)) pgs_nil))))
          (pss_one (ps_if (PW.pt (pw_and (pt_cmpR (op_eqD hr.units) (pv 2) (pv 1) (nomark _)) (pw_and1 (pt_cmpR op_notN (pv 4) pe_non (nomark _)))))
            (pss_one (ps_ret (pv 4)))
            pss_nil)))
        (pss_one (ps_ret (pe_un un_neg pe_int)))), ?_⟩
    clear G_Queues_loads
    clear hr
    walk_at "go"
    intro p H1 P1 sp1 hO
    obtain ⟨vl, o1⟩ := hO.openL (a := p) (by walk_at "mem")
    replace hO := o1 _ (by walk_at "setat")
    clear o1
    have hvl : vl.length = ls.length := by
      have := (hO.pdp List.mem_cons_self).len
      rwa [List.length_map] at this
    walk_at "go"
    refine ⟨for_list (xs := vl) (fun i σ H' => Stop (∃ (t2 t3 t4 : Option V) (P' : List Pf), σ = [some (.ref x), some (.int m), t2, t3, t4] ∧ Ps (.dp vl (ls.map rD) :: P1) P' ∧ (∀ (j : Nat) (q : QR), j < i → ls[j]? = some q → (decide (q.1 = m) && q.2.2.isSome) = false) ∧ Own K H' ((p, .raw (.lst vl)) :: (qu T.C_Queues x dx l s a b ls ss ++ R)) P')) ⟨⟨none, none, none, _, rfl, Ps.refl, (fun j q h => nomatch h), hO⟩⟩ (fun i σ H' hi h => ?_) (fun i v σ H' hv h => ?_) (fun σ H' h => ?_)⟩
    · obtain ⟨t2, t3, t4, P', rfl, sp, hno, hO⟩ := h.h
      exact SqL.of (hO.raw (by walk_at "mem"))
    · clear hO
      obtain ⟨t2, t3, t4, P', rfl, sp, hno, hO⟩ := h.h
      clear h
      obtain ⟨r, hr⟩ : ∃ r, ls[i]? = some r := ⟨ls[i]'(by have := (List.getElem?_eq_some_iff.mp hv).1; omega), List.getElem?_eq_getElem _⟩
      obtain ⟨t, rfl, hO⟩ := opnR hO (r := r) (Dv.get (vs := vl) (ds := ls.map rD) (Dv.of (sp _ List.mem_cons_self)) hv (by rw [List.getElem?_map, hr]; rfl))
      have sp4 := sp.trans (Ps.skip (q := Pf.sq t [.int r.1, oV r.2.1, oV r.2.2]) (Ps.refl (P := P')))
      have hyes : (decide (r.1 = m) && r.2.2.isSome) = true → rdf ls m = r.2.2.getD (-1) := fun h => by rw [rdf, find_hit hr h hno]; rfl
      have hnon : (decide (r.1 = m) && r.2.2.isSome) = false → _ := no_snoc hno hr
      clear hno
      obtain ⟨ln, oa, ob⟩ := r
      dsimp only at hO hyes hnon sp4 ⊢
      rcases ob with _ | ob
      · walk_at "go"
        refine iteD (fun h1 => ?_) (fun h1 => ?_)
        · walk_at "go"
          exact ⟨⟨_, _, _, _, rfl, sp4, hnon (by simp), hO⟩⟩
        · walk_at "go"
          exact ⟨⟨_, _, _, _, rfl, sp4, hnon (by simp), hO⟩⟩
      · walk_at "go"
        refine iteD (fun h1 => ?_) (fun h1 => ?_)
        · have e1 : ln = m := h1
          rw [hyes (by simp [e1])] at k
          walk_at "go"
          refine k _ _ (sp1.trans ((Ps.skip Ps.refl).trans sp4)) ?_
          walk_at "fin"
        · have e1 : ln ≠ m := h1
          walk_at "go"
          exact ⟨⟨_, _, _, _, rfl, sp4, hnon (by simp [e1]), hO⟩⟩
    · clear hO
      obtain ⟨t2, t3, t4, P', rfl, sp, hno, hO⟩ := h.h
      clear h
      rw [hvl] at hno
      have e : rdf ls m = -1 := by rw [rdf, find_nohit hno]; rfl
      rw [e] at k
      walk_at "go"
      refine k _ P' (sp1.trans ((Ps.skip Ps.refl).trans sp)) ?_
      walk_at "fin"
end
end K77

set_option Elab.async false
set_option linter.all false
set_option maxRecDepth 100000
set_option maxHeartbeats 8000000

namespace K77
open PySem PySem.Spec PyProof.Rows L2 Hx 
local macro_rules | `(tactic| walk_at "sm") => `(tactic| repeat' (first | assumption | apply Hx.Same.upd | exact L2.Same.refl _ | apply same_trans'))
local macro_rules | `(tactic| walk_at "hp") => `(tactic| repeat' (first | assumption | exact upd_same | apply old_upd | apply same_at))
local macro_rules | `(tactic| walk_at "rd") => `(tactic| repeat' (first | rfl | apply Exists.intro | apply And.intro | refine iteT ?_ | refine iteF ?_ | exact upd_same | exact SqL.of (by assumption) | exact SqL.of upd_same | exact SqT.of upd_same | exact SqT.of (by assumption) | ((with_reducible show (_ : Int) < _); omega) | ((with_reducible show (_ : Int) ≤ _); omega) | (show (_ : Prop); assumption) | exact Or.inl ⟨_, by assumption, rfl⟩ | exact Or.inl ⟨rfl, _, SqL.of (by assumption)⟩ | exact Or.inl ⟨rfl, _, SqL.of upd_same⟩ | apply old_upd | apply Hx.SqL.new | apply tyl_new | apply Pot.new | exact same_at (by assumption) (by assumption) | exact Or.inl (SqL.of (by assumption)) | exact Or.inl (by assumption) | exact Or.inl (SqL.of upd_same) | exact size_le (Nat.le_of_ble_eq_true rfl) | exact Nat.le_of_ble_eq_true rfl | exact True.intro | exact Or.inl rfl | exact Or.inr rfl | (show (_ : Prop); omega) | (show (_ : Prop); dsimp only; omega) | exact mulw64 (by omega) (by omega) | exact mulw64 (by (try dsimp only); omega) (by (try dsimp only); omega)))
set_option hygiene false in
local macro_rules | `(tactic| walk_at "fl") => `(tactic| simp only [pu_Queues_load_rooms, pi_Queues_load_rooms, pu_Queues_store_rooms, pi_Queues_store_rooms, pu_Queues_loads, pi_Queues_loads, pu_Queues_stores, pi_Queues_stores] at hO)
local macro_rules | `(tactic| walk_at "mem") => `(tactic| ((repeat (first | exact List.Mem.head _ | apply List.Mem.tail | fail)); done))
local macro_rules | `(tactic| walk_at "setat") => `(tactic| ((repeat (first | (with_reducible exact At.head) | (with_reducible apply At.tail) | (with_reducible apply At.app) | fail)); done))
set_option hygiene false in
local macro_rules | `(tactic| walk_at "dv") => `(tactic| ((repeat' (first | exact Dv.nil | exact Dv.of (by walk_at "mem") | exact Dv.ints _ | exact Dv1.of (by walk_at "mem") | exact Dv1.int _ | exact Dv1.non | exact Dv1.bl _ | exact Dv1.str _ | (with_reducible apply Dv.cons) | refine Dv1.tup (by walk_at "mem") ?_ | refine Dv1.lst (by walk_at "mem") ?_ | (with_reducible apply Dv.app) | fail)); done))
local macro_rules | `(tactic| walk_at "ft") => `(tactic| (first | (with_reducible exact Ft.refl) | ((with_reducible apply Ft.toL); focus walk_at "dv") | ((with_reducible apply Ft.toS); focus assumption) | (with_reducible apply Ft.lst) | (with_reducible apply Ft.Le) | (with_reducible apply Ft.dK) | (with_reducible apply Ft.De) | (with_reducible apply Ft.ins) | (with_reducible apply Ft.toL) | (with_reducible apply Ft.toS) | (with_reducible apply Ft.toD) | fail))
local macro_rules | `(tactic| walk_at "sbL") => `(tactic| repeat' (first | (with_reducible exact Sb.refl _) | exact Sb.nil | (with_reducible apply Sb.cons) | (with_reducible apply Sb.app) | (with_reducible exact Pk.one) | (with_reducible exact Pk.here) | (with_reducible exact Pk.all) | (with_reducible apply Pk.skip1) | (with_reducible apply Pk.skipB) | (with_reducible apply Sb.skip) | (with_reducible apply Sb.skipB) | ((with_reducible show Ft _ _ _ _); walk_at "ft") | ((with_reducible show (_ : List _) = _); (first | rfl | (simp [List.map_set, List.map_append]; done) | fail)) | fail))
local macro_rules | `(tactic| walk_at "sb") => `(tactic| ((walk_at "sbL"); done))
local macro_rules | `(tactic| walk_at "ps") => `(tactic| ((repeat' (first | (with_reducible exact Ps.refl) | exact Ps.nil | (with_reducible apply Ps.cons) | exact List.Mem.head _ | apply List.Mem.tail | (with_reducible apply Ps.skip) | fail)); done))
set_option hygiene false in
local macro_rules | `(tactic| walk_at "at") => `(tactic| first | assumption | exact Own.raw hO (by walk_at "mem") | exact Own.ptup hO (by walk_at "mem") | exact Own.plst hO (by walk_at "mem") | fail)
set_option hygiene false in
local macro_rules | `(tactic| walk_at "st") => `(tactic| (rw [upd_mkO hO]; generalize e : updX _ _ _ = H1; (first | ((apply Own.cset hO e); (focus walk_at "setat"); (try clear hO e); intro hO) | ((apply Own.cnewT hO e); (focus assumption); (try clear hO e); intro hO) | ((apply Own.cnew hO e); (focus assumption); (try clear hO e); intro hO) | fail)))
set_option hygiene false in
local macro_rules | `(tactic| walk_at "mk") => `(tactic| (intro p1 p2 f1 f2 f3; rw [upd_mkO hO]; generalize e : upd (updX _ _ _) _ _ = H1; apply Own.cmake hO f1 f2 f3 e; (try clear hO e); intro hO))
set_option hygiene false in
local macro_rules | `(tactic| walk_at "own") => `(tactic| (first | ((apply Own.sub hO); (focus walk_at "sb"); (focus walk_at "ps")) | ((apply Own.sub hF); (focus walk_at "sb"); (focus walk_at "ps")) | fail))
set_option hygiene false in
local macro_rules | `(tactic| walk_at "fin") => `(tactic| (refine Own.sub hO ?_ (by walk_at "ps"); walk_at "sbL"))
set_option hygiene false in
local macro_rules | `(tactic| walk_at "g1") => `(tactic| (first
 | ((with_reducible show (_ : Option HO) = _); walk_at "at")
 | ((with_reducible show (_ : Int) < _); omega) | ((with_reducible show (_ : Int) ≤ _); omega)
 | ((with_reducible show (_ : Nat) < _); (first | assumption | exact Nat.le_of_ble_eq_true rfl | exact size_lt (Nat.le_of_ble_eq_true rfl) | omega | (simp; done) | (simp; omega) | fail))
 | ((with_reducible show (_ : Nat) ≤ _); (first | assumption | exact Nat.le_of_ble_eq_true rfl | exact size_le (Nat.le_of_ble_eq_true rfl) | omega | (simp; done) | (simp; omega) | fail))
 | ((with_reducible show Own _ _ _ _); (first | walk_at "own" | (walk_at "st"; walk_at "own") | fail))
 | ((with_reducible show SqL _ _ _ _); (first | assumption | exact SqL.of (by walk_at "at") | fail))
 | ((with_reducible show SqT _ _ _ _); (first | assumption | exact hO.psq (by walk_at "mem") | exact SqT.of (by walk_at "at") | fail))
  | ((with_reducible show Cls _ _); exact Txt.cl_Queues T) | ((with_reducible show NoAttr _ _ _); exact Txt.n_Queues_load_rooms T) | (with_reducible exact gt_Queues_load_rooms) | ((with_reducible show NoAttr _ _ _); exact Txt.n_Queues_store_rooms T) | (with_reducible exact gt_Queues_store_rooms) | ((with_reducible show NoAttr _ _ _); exact Txt.n_Queues_loads T) | (with_reducible exact gt_Queues_loads) | ((with_reducible show NoAttr _ _ _); exact Txt.n_Queues_stores T) | (with_reducible exact gt_Queues_stores)  | ((with_reducible show V.ref _ = V.ref _); (first | rfl | fail))
 | ((with_reducible show DGet _ _ _ _); (first | exact DGet.ki (by walk_at "at") (by assumption) | exact DGet.kiF (by walk_at "at") (by assumption) | fail))
 | ((with_reducible show DPut _ _ _ _ _); exact DPut.ki (by walk_at "at") (by assumption))
 | ((with_reducible show Rd _ _ _); (first | exact Or.inl (by walk_at "at") | exact Or.inr ⟨_, by walk_at "at"⟩ | fail))
 | ((with_reducible show (∃ _ : List (Key × V), _) ∨ _); refine Or.inl ⟨_, by walk_at "at", ?_⟩)
 | ((with_reducible show Dv _ _ _ _); focus walk_at "dv") | ((with_reducible show Dv1 _ _ _ _); focus walk_at "dv")
 | ((with_reducible show IsD _ _); exact Or.inl ⟨_, Or.inl (by walk_at "at")⟩)
 | ((with_reducible show V.int _ = kV _); exact kV_int)
 | ((with_reducible show Option.isSome _ = true); (first | exact isSome_ofV (by assumption) | assumption | fail))
 | ((with_reducible show SqL _ _ _ _ ∨ SqT _ _ _ _); (first | exact Or.inl (by assumption) | exact Or.inr (by assumption) | exact Or.inl (SqL.of (by walk_at "at")) | exact Or.inr (SqT.of (by walk_at "at")) | fail))
 | ((with_reducible show Dp _ _ _ _); (first | assumption | exact hO.dpL (by walk_at "mem") | exact .lst (SqL.of (by walk_at "at")) (hO.all (by walk_at "dv")) | exact hO.one (by walk_at "dv") | fail))
 | ((with_reducible show TruV _ _ _ _); (first | exact Or.inl ⟨_, SqL.of (by walk_at "at"), rfl⟩ | exact Or.inr (Or.inr ⟨_, by walk_at "at", rfl⟩) | exact Or.inr (Or.inl ⟨_, SqT.of (by walk_at "at"), rfl⟩) | fail))
 | ((with_reducible show RgOk _ _); exact RgOk.of_le (by omega) (by omega) (by omega) (by omega))
 | rfl | (with_reducible assumption) | apply And.intro | apply Exists.intro | refine iteT ?_ | refine iteF ?_
 | (walk_at "st"; (try walk_at "fl"))
 | ((with_reducible show ∀ _ : Addr, _ = none → _); (fail_if_success (with_reducible show ∀ _ : Addr, _ = none → ∃ _ : Nat → Nat → Hp → Prop, _)); intro p fp; walk_at "st")
 | (refine Or.inl ⟨SqL.of (by walk_at "at"), ?_⟩) | (refine Or.inr ⟨SqT.of (by walk_at "at"), ?_⟩) | exact Or.inl ⟨_, by walk_at "at", rfl⟩ | exact Or.inl ⟨rfl, _, SqL.of (by walk_at "at")⟩ | exact tyl_of (by walk_at "at") | exact Or.inl (SqL.of (by walk_at "at")) | exact Or.inr (SqT.of (by walk_at "at")) | exact Or.inl (by walk_at "at") | exact size_le (Nat.le_of_ble_eq_true rfl) | exact Nat.le_of_ble_eq_true rfl | exact True.intro | exact Or.inl rfl | exact Or.inr rfl | (show (_ : Prop); assumption) | (show (_ : Prop); omega) | (show (_ : Prop); dsimp only; omega) | exact mulw64 (by omega) (by omega) | exact mulw64 (by (try dsimp only); omega) (by (try dsimp only); omega) | fail))
local macro_rules | `(tactic| walk_at "go") => `(tactic| repeat walk_at "g1")

section
variable {P : Program} {w : World} {K : PySem.W.Frag} {mg : Str → Option Value} {base : Heap}
theorem rD_lay (r : QR) : (rD r).canLay0 = true := by
  obtain ⟨n, oa, ob⟩ := r
  cases oa <;> cases ob <;> simp [rD, oD, PyData.canLay0, PyData.canLayAll0]
theorem rD_depth (r : QR) : (rD r).depth ≤ 1 := by
  obtain ⟨n, oa, ob⟩ := r
  cases oa <;> cases ob <;> simp [rD, oD, PyData.depth, PyData.depthAll]
theorem rDs_lay : ∀ rs : List QR, PyData.canLayAll0 (rs.map rD) = true
  | [] => by simp [PyData.canLayAll0]
  | r :: rs => by simp [PyData.canLayAll0, rD_lay r, rDs_lay rs]
theorem rDs_depth : ∀ rs : List QR, PyData.depthAll (rs.map rD) ≤ 1
  | [] => by simp [PyData.depthAll]
  | r :: rs => by
    have h1 := rDs_depth rs
    have h2 := rD_depth r
    simp only [List.map_cons, PyData.depthAll]
    omega
theorem sh_rows (rs : List QR) : SeqAt.shaped (.list (rs.map rD)) = true := by
  have h1 := rDs_depth rs
  have h2 : PyData.depth (.list (rs.map rD)) ≤ 64 := by
    simp only [PyData.depth]
    omega
  show (PyData.canLay0 (.list (rs.map rD)) && decide (PyData.depth (.list (rs.map rD)) ≤ 64)) = true
  rw [Bool.and_eq_true]
  exact ⟨by simp only [PyData.canLay0]; exact rDs_lay rs, decide_eq_true h2⟩
theorem sh_src (o : Option (Int × Option Int)) : SeqAt.shaped (srcD o) = true := by
  rcases o with _ | ⟨n, _ | w⟩ <;> (simp [srcD, oD, SeqAt.shaped, PyData.canLay0, PyData.canLayAll0, PyData.depth, PyData.depthAll]; decide +kernel)
theorem sh_bools (a b : Bool) : SeqAt.shaped (.list [.bool a, .bool b]) = true := by rfl
theorem sh_nil : SeqAt.shaped (.list []) = true := by decide
theorem eqv_nil (ds : List PyData) : PyData.eqv (.list ds) (.list []) = decide (ds = []) := by cases ds <;> simp [PyData.eqv, PyData.eqvAll]
theorem src_mem (v : Int) (ow : Option Int) : PyData.eqv (srcD (some (v, ow))) (.tuple [.str "memory"]) = false := by simp [srcD, PyData.eqv, PyData.eqvAll]
theorem opnS {K : PySem.W.Frag} {H : Hp} {L : List (Addr × Ob)} {P : List Pf} {v : V} {n : Int} {ow : Option Int} (h : Own K H L P) (x : Dv1 K P v (srcD (some (n, ow)))) : ∃ t, v = .ref t ∧ Own K H L (.sq t [.str "store", .int n, oV ow] :: P) := by
  obtain ⟨t, e, h2⟩ := h.opn x (by cases ow <;> rfl)
  refine ⟨t, e, ?_⟩
  have e2 : [PyData.str "store", .int n, oD ow].map fv = [.str "store", .int n, oV ow] := by rw [List.map_cons, List.map_cons, List.map_cons, fv_oD]; rfl
  rw [← e2]; exact h2
theorem scal_oV (a b : Option Int) : scal (oV a) (oV b) = true := by cases a <;> cases b <;> rfl
theorem keepPs {K : PySem.W.Frag} {H : Hp} {L : List (Addr × Ob)} {P : List Pf} {q : Pf} {G : Prop} (hO : Own K H L (q :: P)) (k : ∀ P0, q ∈ P0 → Ps P P0 → Own K H L P0 → G) : G := k (q :: P) List.mem_cons_self (Ps.skip Ps.refl) hO
theorem keepQ {P : List Pf} {q : Pf} {G : Prop} (m : q ∈ P) (k : q ∈ P → G) : G := k m
theorem set_mid {α β : Type} (A B : List α) (f : α → β) (e e' : α) : (A ++ e' :: B).map f = ((A ++ e :: B).map f).set A.length (f e') := by
  rw [← List.map_set]
  congr 1
  rw [List.set_append_right _ _ (Nat.le_refl _), Nat.sub_self]; rfl
theorem opnF {K : PySem.W.Frag} {H : Hp} {L : List (Addr × Ob)} {P : List Pf} {v : V} {r : FE} (h : Own K H L P) (x : Dv1 K P v (fD r)) : ∃ t, v = .ref t ∧ Own K H L (.sq t [.int (r.sp : Int), .int r.nu, .bl r.dn, oV r.gt] :: P) := by
  obtain ⟨t, e, h2⟩ := h.opn x (by cases hq : r.gt <;> rfl)
  refine ⟨t, e, ?_⟩
  have e2 : [PyData.int (r.sp : Int), .int r.nu, .bool r.dn, oD r.gt].map fv = [.int (r.sp : Int), .int r.nu, .bl r.dn, oV r.gt] := by rw [List.map_cons, List.map_cons, List.map_cons, List.map_cons, fv_oD]; rfl
  rw [← e2]; exact h2
def sp_Ldone (K : PySem.W.Frag) (C : Addr) : Sp := fun vs H Q _ => ∃ (x dx l s : Addr) (a b : Int) (A B : List FE) (e : FE) (rs : List RW) (ms : List Int) (s0 : Nat) (nx : Int) (d rw fl : Addr) (R : List (Addr × Ob)) (P : List Pf), vs = [.ref x, .ref d, .ref rw, .ref fl, .int (A.length : Int)] ∧
  Own K H (qu C x dx l s a b (lsOf (A ++ e :: B)) (ssOf (A ++ e :: B)) ++ ((d, .raw (.lst (ms.map V.int))) :: (rw, .L (rs.map rwD)) :: (fl, .L ((A ++ e :: B).map fD)) :: R)) P ∧ RowsOk rs ∧ Fl rs ms s0 (A ++ e :: B) nx ∧ e.dn = false ∧
  ∀ (g o : Option Int) (H' : Hp) (P' : List Pf), Ps P P' → (e.st = true → g = none) → (e.st = false → okV ms (A ++ e :: B) A { e with dn := true, gt := g, sr := o }) →
    Own K H' (qu C x dx l s a b (lsOf (A ++ { e with dn := true, gt := g, sr := o } :: B)) (ssOf (A ++ { e with dn := true, gt := g, sr := o } :: B)) ++ ((d, .raw (.lst (ms.map V.int))) :: (rw, .L (rs.map rwD)) :: (fl, .L ((A ++ { e with dn := true, gt := g, sr := o } :: B).map fD)) :: R)) P' →
    Q (oV (if e.st then (B.find? (hitF e.nu e.pl)).map (fun f => f.nu) else none)) H'
theorem ok_Ldone (T : Txt K mg) : FnOk P w K mg base CX0 6 T.f_Ldone T.fd_Ldone ["_law_queues", "_law_memory", "_law_rows_here", "_law_flight", "_law_at"] (sp_Ldone K T.C_Queues) := by
  have G_Queues_source := ok_Queues_source (P := P) (w := w) (base := base) T
  have G_Queues_read := ok_Queues_read (P := P) (w := w) (base := base) T
  have G_Queues_known := ok_Queues_known (P := P) (w := w) (base := base) T
  have G_Lread_from := ok_Lread_from (P := P) (w := w) (base := base) T
  refine T.F_Ldone.ok sc_Ldone (fun vs H Q E h => ?_) (fun cdv A outer s H vs Q E hr h => ?_)
  · obtain ⟨x, dx, l, s, a, b, A, B, e, rs, ms, s0, nx, d, rw, fl, R, P, rfl, hO, ok, hF, hdn, k⟩ := h; rfl
  · obtain ⟨x, dx, l, s, a, b, A, B, e, rs, ms, s0, nx, d, rw, fl, R, P, rfl, hO, ok, hF, hdn, k⟩ := h
    refine ⟨_, (pss_cons (ps_asg (pe_ix ix_list (pv 3) (pv 4) (fun _ _ => rfl)) (pg_tup rfl (pgs_cons (pg_name (i := 5) sc_Ldone.nd rfl (Or.inl rfl)) (pgs_cons (pg_name (i := 6) sc_Ldone.nd rfl (Or.inr rfl)) (pgs_cons (pg_name (i := 7) sc_Ldone.nd rfl (Or.inl rfl)) (pgs_cons (pg_name (i := 8) sc_Ldone.nd rfl (Or.inl rfl)) pgs_nil))))))
        (pss_cons (ps_asg (pe_ix ix_list (pv 2) (pv 5) (fun _ _ => rfl)) (pg_tup rfl (pgs_cons (pg_name (i := 9) sc_Ldone.nd rfl (Or.inl rfl)) (pgs_cons (pg_name (i := 10) sc_Ldone.nd rfl (Or.inr rfl)) (pgs_cons (pg_name (i := 11) sc_Ldone.nd rfl (Or.inl rfl)) pgs_nil)))))
        (pss_cons (ps_if (pt_not (pt_val (pv 9)))
          (pss_cons (ps_set (i := 12) sc_Ldone.nd rfl (Or.inl rfl) (pe_meth (pv 0) T.cl_Queues T.me_Queues_source G_Queues_source (hr.mono (by decide)) T.b_Queues_source .nil pass0 (pa_cons (pv 6) (pa_cons (pv 10) pa_nil))))
          (pss_cons (ps_if (PW.pt (pw_and (pt_cmpR (op_stop (op_neD hr.units)) (pv 12) (pe_tup (pa_cons pe_str pa_nil)) (nomark _)) (pw_and1 (pt_cmpR op_gt (pe_ix ix_tup (pv 12) pe_int (fun _ _ => rfl)) (pv 6) (nomark _)))))
            (pss_one (ps_ret (pe_un un_neg pe_int)))
            pss_nil)
          (pss_cons (ps_set (i := 8) sc_Ldone.nd rfl (Or.inl rfl) (pe_ifExp (pt_cmpR (op_stop (op_eqD hr.units)) (pv 12) (pe_tup (pa_cons pe_str pa_nil)) (nomark _)) (pe_ix ix_list (pv 1) (pv 10) (fun _ _ => rfl)) (pe_ix ix_tup (pv 12) pe_int (fun _ _ => rfl))))
          (pss_cons (ps_expr (pe_meth (pv 0) T.cl_Queues T.me_Queues_read G_Queues_read (hr.mono (by decide)) T.b_Queues_read .nil pass0 (pa_cons (pv 6) (pa_cons (pv 10) (pa_cons (pe_mid (pe_ifExp (pt_cmpR (op_stop (op_eqD hr.units)) (pv 12) (pe_tup (pa_cons pe_str pa_nil)) (nomark _)) pe_non (pe_ix ix_tup (pv 12) pe_int (fun _ _ => rfl)))) pa_nil)))))
          (pss_cons (ps_asg (pe_tup (pa_cons (pv 5) (pa_cons (pv 6) (pa_cons pe_bl (pa_cons (pv 8) pa_nil))))) (pg_sub (pv 3) (pv 4) set_list))
          (pss_one (ps_ret pe_non)))))))
          pss_nil)
        (pss_cons (ps_asg (pe_tup (pa_cons (pv 5) (pa_cons (pv 6) (pa_cons pe_bl (pa_cons pe_non pa_nil))))) (pg_sub (pv 3) (pv 4) set_list))
        (pss_cons (ps_set (i := 13) sc_Ldone.nd rfl (Or.inl rfl) (pe_meth (pv 0) T.cl_Queues T.me_Queues_known G_Queues_known (hr.mono (by decide)) T.b_Queues_known .nil pass0 (pa_cons (pv 6) (pa_cons (pv 10) (pa_cons (pv 11) pa_nil)))))
        (pss_cons (ps_setLc (i := 14) (own := [("_law_one", 16)]) (g := gName 16) (te := tOp (rIxT K) (tVar 16) (tC (.int 1))) (tt := tAnd (tB (tOp (rIxT K) (tVar 16) (tC (.int 2)))) (tAnd (tNot (tB (tOp (rIxT K) (tOp (rIxL K) (tVar 2) (tOp (rIxT K) (tVar 16) (tC (.int 0)))) (tC (.int 0))))) (tTest (tOp rEq (tOp (rIxT K) (tOp (rIxL K) (tVar 2) (tOp (rIxT K) (tVar 16) (tC (.int 0)))) (tC (.int 1))) (tVar 10))))) rfl sc_Ldone.nd rfl rfl (sw_true rfl rfl rfl (by decide +kernel)) (pi_list (pe_slice sl_list (pv 3) (po_some (pe_op op_add (pv 4) pe_int)) po_none)) (blkOk_by (N := ["_law_queues", "_law_memory", "_law_rows_here", "_law_flight", "_law_at", "_law_spot", "_law_number", "_law_is_done", "_law_got", "_law_is_store", "_law_place", "_law_word", "_law_source", "_law_early", "_law_due", "_law_wrong", "_law_one"]) (sc := defScope s_Ldone) (by decide +kernel)) (fun _ _ _ _ _ => pg_name (i := 16) sc_Ldone.nd rfl (Or.inl rfl)) (fun _ _ _ _ _ => pts_one (PW.pt (pw_and (pt_val (pe_ix ix_tup (pv 16) pe_int (fun _ _ => rfl))) (pw_and (pt_not (pt_val (pe_ix ix_tup (pe_ix ix_list (pv 2) (pe_ix ix_tup (pv 16) pe_int (fun _ _ => rfl)) (fun _ _ => rfl)) pe_int (fun _ _ => rfl)))) (pw_and1 (pt_cmpR op_eq (pe_ix ix_tup (pe_ix ix_list (pv 2) (pe_ix ix_tup (pv 16) pe_int (fun _ _ => rfl)) (fun _ _ => rfl)) pe_int (fun _ _ => rfl)) (pv 10) (nomark _))))))) (fun _ _ _ _ _ => (pe_ix ix_tup (pv 16) pe_int (fun _ _ => rfl))))
        (pss_cons (ps_setLc (i := 15) (own := [("_law_one", 16)]) (g := gName 16) (tt := tTest (tOp (rI0 fun i j => V.bl (decide (i < j))) (tCall (sp_Lrdf K T.C_Queues) [] E0 (tCons (tVar 0) (tCons (tVar 16) tNil))) (tVar 6))) rfl sc_Ldone.nd rfl rfl (sw_true rfl rfl rfl (by decide +kernel)) (pi_list (pv 14)) (blkOk_by (N := ["_law_queues", "_law_memory", "_law_rows_here", "_law_flight", "_law_at", "_law_spot", "_law_number", "_law_is_done", "_law_got", "_law_is_store", "_law_place", "_law_word", "_law_source", "_law_early", "_law_due", "_law_wrong", "_law_one"]) (sc := defScope s_Ldone) (by decide +kernel)) (fun _ _ _ _ _ => pg_name (i := 16) sc_Ldone.nd rfl (Or.inl rfl)) (fun _ _ _ _ _ => pts_one (pt_cmpR op_lt (pe_call G_Lread_from (hr.mono (by decide)) rfl T.g_Lread_from T.F_Lread_from.kp T.b_Lread_from .nil pass0 (pa_cons (pv 0) (pa_cons (pv 16) pa_nil))) (pv 6) (nomark _))) (fun _ _ _ _ _ => (pv 16)))
        (pss_one (ps_ret (pe_ifExp (pt_cmpR op_eq (pv 13) (pe_ifExp (pt_cmpR (op_neD hr.units) (pv 15) (pe_lst pa_nil) (nomark _)) (pe_ix ix_list (pv 15) pe_int (fun _ _ => rfl)) pe_non) (nomark _)) (pv 13) (pe_un un_neg pe_int))))))))))), ?_⟩
    clear G_Queues_source G_Queues_read G_Queues_known G_Lread_from
    clear hr
    obtain ⟨lt1, lt2, lt3⟩ := hF.lt_of
    have hle := hF.le
    rw [List.length_append, List.length_cons] at hle
    have hn9 := ok.n9
    have hl1 : (lsOf (A ++ e :: B)).length ≤ 100 := by have := ls_len (A ++ e :: B); rw [List.length_append, List.length_cons] at this; omega
    have hs1 : (ssOf (A ++ e :: B)).length ≤ 100 := by have := ss_len (A ++ e :: B); rw [List.length_append, List.length_cons] at this; omega
    have hin : e ∈ A ++ e :: B := by simp
    have hrow := hF.row e hin
    have hpl := hF.pls ok hin
    have hwd : 0 ≤ e.wd ∧ e.wd < 65536 := ok.wd _ (List.mem_of_getElem? hrow)
    have hnu := (hF.lo e hin).1
    have hms3 : ms.length = 3 := by rw [hF.mem]; exact memK_len _ _
    have hnl := asc_nodup hF.al
    have hns := asc_nodup hF.as
    have hat : (A ++ e :: B)[A.length]? = some e := by simp
    obtain ⟨vr, o1⟩ := hO.openL (a := rw) (by walk_at "mem")
    replace hO := o1 _ (by walk_at "setat")
    have hvr := (hO.pdp List.mem_cons_self).len
    rw [List.length_map] at hvr
    obtain ⟨vf, o2⟩ := hO.openL (a := fl) (by walk_at "mem")
    replace hO := o2 _ (by walk_at "setat")
    clear o1 o2
    have hvf := (hO.pdp List.mem_cons_self).len
    rw [List.length_map, List.length_append, List.length_cons] at hvf
    have mvf : Pf.dp vf ((A ++ e :: B).map fD) ∈ (Pf.dp vf ((A ++ e :: B).map fD) :: Pf.dp vr (rs.map rwD) :: P) := List.mem_cons_self
    have hvj : vf[A.length]? = some (vf[A.length]'(by omega)) := List.getElem?_eq_getElem _
    generalize vf[A.length]'(by omega) = u at hvj
    obtain ⟨t, rfl, hO⟩ := opnF hO (r := e) (Dv.get (vs := vf) (ds := (A ++ e :: B).map fD) (Dv.of List.mem_cons_self) hvj (by rw [List.getElem?_map, hat]; rfl))
    have ad := atI_nat hvj
    have hix : ixN vf.length (A.length : Int) = some A.length := ixR (by omega)
    have hsl : e.sp < vr.length := by have := (List.getElem?_eq_some_iff.mp hrow).1; omega
    have hvw : vr[e.sp]? = some vr[e.sp] := List.getElem?_eq_getElem hsl
    generalize vr[e.sp] = u2 at hvw
    obtain ⟨t2, rfl, hO⟩ := opnW hO (r := (e.st, e.pl, e.wd)) (Dv.get (vs := vr) (ds := rs.map rwD) (Dv.of (by walk_at "mem")) hvw (by rw [List.getElem?_map, hrow]; rfl))
    have ad2 := atI_nat hvw
    dsimp only at hO
    walk_at "go"
    cases hst : e.st with
    | false =>
      have k2 : ∀ (g o : Option Int) (H' : Hp) (P' : List Pf), Ps P P' → (e.st = true → g = none) → (e.st = false → okV ms (A ++ e :: B) A { e with dn := true, gt := g, sr := o }) →
        Own K H' (qu T.C_Queues x dx l s a b (lsOf (A ++ { e with dn := true, gt := g, sr := o } :: B)) (ssOf (A ++ { e with dn := true, gt := g, sr := o } :: B)) ++ ((d, .raw (.lst (ms.map V.int))) :: (rw, .L (rs.map rwD)) :: (fl, .L ((A ++ { e with dn := true, gt := g, sr := o } :: B).map fD)) :: R)) P' → Q .non H' := fun g o H' P' a b c d => by
        have := k g o H' P' a b c d
        rw [hst] at this
        exact this
      clear k
      have hmem : (e.nu, none, none) ∈ lsOf (A ++ e :: B) := by have := mem_ls hin hst; simpa [lrow, hdn] using this
      have hnm : e.nu ∈ qkeys (lsOf (A ++ e :: B)) := List.mem_map.mpr ⟨_, hmem, rfl⟩
      have hpl2 : 0 ≤ e.pl ∧ e.pl < 1024 := by omega
      have adm : atI (ms.map V.int) e.pl = some (V.int (ms.getD e.pl.toNat 0)) := by
        obtain ⟨j, hj⟩ := Int.eq_ofNat_of_zero_le hpl.1
        rw [hj]
        exact atI_nat (by rw [List.getElem?_map, Int.toNat_natCast, List.getElem?_eq_getElem (by omega), List.getD_eq_getElem?_getD, List.getElem?_eq_getElem (by omega)]; rfl)
      walk_at "go"
      intro tf H1 P1 sp1 hO dvf
      rw [src_eq hF] at dvf
      have mvf1 : Pf.dp vf ((A ++ e :: B).map fD) ∈ P1 := sp1 _ (by walk_at "mem")
      have mvr1 : Pf.dp vr (rs.map rwD) ∈ P1 := sp1 _ (by walk_at "mem")
      have sp01 : Ps P P1 := (Ps.skip (Ps.skip (Ps.skip (Ps.skip Ps.refl)))).trans sp1
      have S1 := sh_src ((lastS A e.pl).map fun d => (d.nu, some d.wd))
      have S2 : SeqAt.shaped (.tuple [.str "memory"]) = true := by decide +kernel
      walk_at "go"
      refine ⟨⟨_, .tuple [.str "memory"], hO.one (dvf.mono (Ps.skip Ps.refl)), hO.one (Dv1.tup List.mem_cons_self (Dv.cons (Dv1.str _) Dv.nil)), S1, S2, ?_⟩⟩
      cases hq : lastS A e.pl with
      | none =>
        rw [hq] at dvf S1
        have hv : okV ms (A ++ e :: B) A { e with dn := true, gt := some (ms.getD e.pl.toNat 0), sr := none } := by
          unfold okV
          show (match lastS A e.pl with | some d => _ | none => _)
          rw [hq]
          exact ⟨rfl, fun v h => nomatch h⟩
        rw [show (!PyData.eqv (srcD (Option.map (fun d : FE => (d.nu, some d.wd)) none)) (.tuple [.str "memory"])) = false from by decide +kernel]
        walk_at "go"
        refine ⟨⟨_, .tuple [.str "memory"], hO.one (dvf.mono (Ps.skip (Ps.skip Ps.refl))), hO.one (Dv1.tup List.mem_cons_self (Dv.cons (Dv1.str _) Dv.nil)), S1, S2, ?_⟩⟩
        rw [show PyData.eqv (srcD (Option.map (fun d : FE => (d.nu, some d.wd)) none)) (.tuple [.str "memory"]) = true from by decide +kernel]
        walk_at "go"
        refine Stop.mk ⟨fun v H' => Stop (v = oV none ∧ ∃ P', Ps P1 P' ∧ Own K H' (qu T.C_Queues x dx l s a b (lsOf (A ++ e :: B)) (ssOf (A ++ e :: B)) ++ ((d, .raw (.lst (ms.map V.int))) :: (rw, .raw (.lst vr)) :: (fl, .raw (.lst vf)) :: R)) P'), ?_, fun v H' hM => ?_⟩
        · walk_at "go"
          refine ⟨⟨_, .tuple [.str "memory"], hO.one (dvf.mono (Ps.skip (Ps.skip (Ps.skip Ps.refl)))), hO.one (Dv1.tup List.mem_cons_self (Dv.cons (Dv1.str _) Dv.nil)), S1, S2, ?_⟩⟩
          rw [show PyData.eqv (srcD (Option.map (fun d : FE => (d.nu, some d.wd)) none)) (.tuple [.str "memory"]) = true from by decide +kernel]
          walk_at "go"
          exact ⟨⟨rfl, P1, Ps.refl, by walk_at "fin"⟩⟩
        clear hO
        obtain ⟨rfl, P2, sp2, hO⟩ := hM.h
        clear hM
        have hsrc : ∀ v, (none : Option Int) = some v → 0 ≤ v ∧ v < e.nu ∧ ∃ ow, (v, some e.pl, ow) ∈ ssOf (A ++ e :: B) := fun v h => nomatch h
        walk_at "go"
        intro H5 P5 sp5 hO
        walk_at "go"
        refine keepPs hO fun P6 mP6 sp6 hO => ?_
        refine k2 (some (ms.getD e.pl.toNat 0)) none _ P6 (sp01.trans (sp2.trans (sp5.trans sp6))) (fun h => absurd (hst.symm.trans h) (by decide)) (fun _ => hv) ?_
        rw [(ls_done lt1 lt2 hst).1, (ls_done lt1 lt2 hst).2, set_mid A B fD e]
        walk_at "fin"
        · exact Dv.of (sp6 _ (sp5 _ (sp2 _ mvr1)))
        · exact Dv.set _ (Dv1.tup mP6 (Dv.cons (Dv1.int _) (Dv.cons (Dv1.int _) (Dv.cons (Dv1.bl _) (Dv.cons (Dv1.int _) Dv.nil))))) (Dv.of (sp6 _ (sp5 _ (sp2 _ mvf1))))
      | some dd =>
        obtain ⟨hdm, hds, hdd, hdp⟩ := lastS_sub hq
        rw [hq] at dvf S1
        have hlt := lt1 dd hdm
        have hv : okV ms (A ++ e :: B) A { e with dn := true, gt := some dd.wd, sr := some dd.nu } := by
          unfold okV
          show (match lastS A e.pl with | some d => _ | none => _)
          rw [hq]
          exact ⟨rfl, rfl⟩
        rw [show (!PyData.eqv (srcD (Option.map (fun d : FE => (d.nu, some d.wd)) (some dd))) (.tuple [.str "memory"])) = true from by rw [Option.map_some, src_mem]; rfl]
        obtain ⟨tf2, e2, hO⟩ := opnS hO (dvf.mono (Ps.skip Ps.refl))
        obtain rfl : tf = tf2 := V.ref.inj e2
        clear e2
        walk_at "go"
        refine iteD (fun h => absurd (show e.nu < dd.nu from h) (by omega)) (fun _ => ?_)
        walk_at "go"
        refine ⟨⟨_, .tuple [.str "memory"], hO.one (dvf.mono (Ps.skip (Ps.skip (Ps.skip Ps.refl)))), hO.one (Dv1.tup List.mem_cons_self (Dv.cons (Dv1.str _) Dv.nil)), S1, S2, ?_⟩⟩
        rw [show PyData.eqv (srcD (Option.map (fun d : FE => (d.nu, some d.wd)) (some dd))) (.tuple [.str "memory"]) = false from by rw [Option.map_some, src_mem]]
        walk_at "go"
        refine Stop.mk ⟨fun v H' => Stop (v = oV (some dd.nu) ∧ ∃ P', Ps P1 P' ∧ Own K H' (qu T.C_Queues x dx l s a b (lsOf (A ++ e :: B)) (ssOf (A ++ e :: B)) ++ ((d, .raw (.lst (ms.map V.int))) :: (rw, .raw (.lst vr)) :: (fl, .raw (.lst vf)) :: R)) P'), ?_, fun v H' hM => ?_⟩
        · walk_at "go"
          refine ⟨⟨_, .tuple [.str "memory"], hO.one (dvf.mono (Ps.skip (Ps.skip (Ps.skip (Ps.skip Ps.refl))))), hO.one (Dv1.tup List.mem_cons_self (Dv.cons (Dv1.str _) Dv.nil)), S1, S2, ?_⟩⟩
          rw [show PyData.eqv (srcD (Option.map (fun d : FE => (d.nu, some d.wd)) (some dd))) (.tuple [.str "memory"]) = false from by rw [Option.map_some, src_mem]]
          walk_at "go"
          exact ⟨⟨rfl, P1, Ps.refl, by walk_at "fin"⟩⟩
        clear hO
        obtain ⟨rfl, P2, sp2, hO⟩ := hM.h
        clear hM
        have hsrc : ∀ v, some dd.nu = some v → 0 ≤ v ∧ v < e.nu ∧ ∃ ow, (v, some e.pl, ow) ∈ ssOf (A ++ e :: B) := fun v h => by
          obtain rfl := Option.some.inj h
          refine ⟨(hF.lo dd (by simp [hdm])).1, hlt, some dd.wd, ?_⟩
          have := mem_ss (fs := A ++ e :: B) (e := dd) (by simp [hdm]) hds
          simpa [srow, hdd, hdp] using this
        walk_at "go"
        intro H5 P5 sp5 hO
        walk_at "go"
        refine keepPs hO fun P6 mP6 sp6 hO => ?_
        refine k2 (some dd.wd) (some dd.nu) _ P6 (sp01.trans (sp2.trans (sp5.trans sp6))) (fun h => absurd (hst.symm.trans h) (by decide)) (fun _ => hv) ?_
        rw [(ls_done lt1 lt2 hst).1, (ls_done lt1 lt2 hst).2, set_mid A B fD e]
        walk_at "fin"
        · exact Dv.of (sp6 _ (sp5 _ (sp2 _ mvr1)))
        · exact Dv.set _ (Dv1.tup mP6 (Dv.cons (Dv1.int _) (Dv.cons (Dv1.int _) (Dv.cons (Dv1.bl _) (Dv.cons (Dv1.int _) Dv.nil))))) (Dv.of (sp6 _ (sp5 _ (sp2 _ mvf1))))
    | true =>
      have k2 : ∀ (g o : Option Int) (H' : Hp) (P' : List Pf), Ps P P' → (e.st = true → g = none) → (e.st = false → okV ms (A ++ e :: B) A { e with dn := true, gt := g, sr := o }) →
        Own K H' (qu T.C_Queues x dx l s a b (lsOf (A ++ { e with dn := true, gt := g, sr := o } :: B)) (ssOf (A ++ { e with dn := true, gt := g, sr := o } :: B)) ++ ((d, .raw (.lst (ms.map V.int))) :: (rw, .L (rs.map rwD)) :: (fl, .L ((A ++ { e with dn := true, gt := g, sr := o } :: B).map fD)) :: R)) P' → Q (oV ((B.find? (hitF e.nu e.pl)).map fun f => f.nu)) H' := fun g o H' P' a b c d => by
        have := k g o H' P' a b c d
        rw [hst] at this
        exact this
      clear k
      have hmem : (e.nu, none, none) ∈ ssOf (A ++ e :: B) := by have := mem_ss hin hst; simpa [srow, hdn] using this
      have hpl2 : 0 ≤ e.pl ∧ e.pl < 1024 := by omega
      walk_at "go"
      intro H1 P1 sp1 hO
      rw [erl_eq hF hst]
      have mvf1 : Pf.dp vf ((A ++ e :: B).map fD) ∈ P1 := sp1 _ (by walk_at "mem")
      have mvr1 : Pf.dp vr (rs.map rwD) ∈ P1 := sp1 _ (by walk_at "mem")
      refine keepQ (sp1 _ List.mem_cons_self) fun mp1 => ?_
      have sp01 : Ps P P1 := (Ps.skip (Ps.skip (Ps.skip (Ps.skip (Ps.skip Ps.refl))))).trans sp1
      walk_at "go"
      have ecut : ∀ v : V, cutV (vf.set A.length v) (some ((A.length : Int) + 1)) none = vf.drop (A.length + 1) := fun v => by
        rw [show ((A.length : Int) + 1) = ((A.length + 1 : Nat) : Int) from by omega, cut_from, List.drop_set_of_lt (by omega)]
      rw [ecut] at hO
      have hBl : B.length = (vf.drop (A.length + 1)).length := by rw [List.length_drop]; omega
      intro D hD
      refine lc_siftW B (fun f => V.int f.nu) (fun f => f.dn && (!f.st && decide (f.pl = e.pl))) (by rw [hBl]; exact walk_list (xs := vf.drop (A.length + 1))) hO hD (by omega) (fun H L' P' m t h => SqL.of (h.raw (m _ (by walk_at "mem")))) (fun i f xv H9 H' P' ys Qn Qy hz2 hY sp hO kn ky => ?_) (fun H6 P6 sp6 hO => ?_)
      · obtain ⟨rfl, hx⟩ := hY
        rw [List.getElem?_drop] at hx
        have hfi : (A ++ e :: B)[A.length + 1 + i]? = some f := by
          rw [List.getElem?_append_right (by omega), show A.length + 1 + i - A.length = i + 1 from by omega, List.getElem?_cons_succ]; exact hz2
        have hfm := List.mem_of_getElem? hfi
        have hfr := hF.row f hfm
        obtain ⟨t3, rfl, hO⟩ := opnF hO (r := f) (Dv.get (vs := vf) (ds := (A ++ e :: B).map fD) (Dv.of (sp _ mvf1)) hx (by rw [List.getElem?_map, hfi]; rfl))
        have hfl : f.sp < vr.length := by have := (List.getElem?_eq_some_iff.mp hfr).1; omega
        have hvw3 : vr[f.sp]? = some vr[f.sp] := List.getElem?_eq_getElem hfl
        generalize vr[f.sp] = u3 at hvw3
        obtain ⟨t4, rfl, hO⟩ := opnW hO (r := (f.st, f.pl, f.wd)) (Dv.get (vs := vr) (ds := rs.map rwD) (Dv.of (List.mem_cons_of_mem _ (sp _ mvr1))) hvw3 (by rw [List.getElem?_map, hfr]; rfl))
        have ad3 := atI_nat hvw3
        dsimp only at hO
        cases hd : f.dn with
        | false =>
          rw [hd] at hO
          walk_at "go"
          exact kn (by simp [hd]) _ _ (Ps.skip (Ps.skip Ps.refl)) hO
        | true =>
          rw [hd] at hO
          cases hs : f.st with
          | true =>
            rw [hs] at hO
            walk_at "go"
            exact kn (by simp [hd, hs]) _ _ (Ps.skip (Ps.skip Ps.refl)) hO
          | false =>
            rw [hs] at hO
            walk_at "go"
            refine iteD (fun h => ?_) (fun h => ?_)
            · walk_at "go"
              exact ky (by simp [hd, hs, V.int.inj h]) _ _ (Ps.skip (Ps.skip Ps.refl)) hO
            · exact kn (by simp [hd, hs, show f.pl ≠ e.pl from fun z => h (congrArg V.int z)]) _ _ (Ps.skip (Ps.skip Ps.refl)) hO
      walk_at "go"
      have hBf : (B.filter fun f => f.dn && (!f.st && decide (f.pl = e.pl))).length ≤ B.length := List.length_filter_le _ _
      have hfind : B.find? (hitF e.nu e.pl) = ((B.filter fun f => f.dn && (!f.st && decide (f.pl = e.pl))).filter fun f => decide (f.sr.getD (-1) < e.nu)).head? := by
        rw [List.filter_filter, List.head?_filter]
        congr 1
        funext f
        rw [hitF]
        cases f.st <;> cases f.dn <;> cases decide (f.pl = e.pl) <;> cases decide (f.sr.getD (-1) < e.nu) <;> rfl
      have hBm : ∀ f ∈ B.filter (fun f => f.dn && (!f.st && decide (f.pl = e.pl))), f.dn = true ∧ f.st = false ∧ f ∈ A ++ e :: B := fun f hf => by
        have h1 := List.mem_filter.mp hf
        have h2 := h1.2
        simp only [Bool.and_eq_true, Bool.not_eq_true'] at h2
        exact ⟨h2.1, h2.2.1, by simp [h1.1]⟩
      rw [hfind]
      generalize (B.filter fun f => f.dn && (!f.st && decide (f.pl = e.pl))) = due at hO hBf hBm hfind ⊢
      intro D2 hD2
      refine lc_siftW due (fun f => V.int f.nu) (fun f => decide (f.sr.getD (-1) < e.nu)) (by rw [← List.length_map (f := fun f : FE => V.int f.nu)]; exact walk_list (xs := due.map fun f => V.int f.nu)) hO hD2 (by omega) (fun H L' P' m t h => SqL.of (h.raw (m _ (by walk_at "mem")))) (fun i f xv H9 H' P' ys Qn Qy hz2 hY sp hO kn ky => ?_) (fun H7 P7 sp7 hO => ?_)
      · obtain ⟨rfl, hx⟩ := hY
        rw [List.getElem?_map, hz2] at hx
        obtain rfl : V.int f.nu = xv := Option.some.inj hx
        obtain ⟨g1, g2, g3⟩ := hBm f (List.mem_of_getElem? hz2)
        obtain ⟨X, Y, e9⟩ := List.append_of_mem g3
        have er : rdf (lsOf (A ++ e :: B)) f.nu = f.sr.getD (-1) := by
          rw [e9]; exact rdf_eq (e9 ▸ hF) g2 g1
        walk_at "go"
        intro H8 P8 sp8 hO
        rw [er]
        walk_at "go"
        refine iteD (fun h => ?_) (fun h => ?_)
        · walk_at "go"
          exact ky (decide_eq_true h) _ _ sp8 (by walk_at "own")
        · exact kn (decide_eq_false h) _ _ sp8 (by walk_at "own")
      rw [show (due.filter fun f => decide (f.sr.getD (-1) < e.nu)).map (fun f => V.int f.nu) = ((due.filter fun f => decide (f.sr.getD (-1) < e.nu)).map fun f => f.nu).map V.int from by rw [List.map_map]; rfl] at hO
      rw [← List.head?_map]
      have hwl : ((due.filter fun f => decide (f.sr.getD (-1) < e.nu)).map fun f => f.nu).length ≤ 9 := by rw [List.length_map]; exact Nat.le_trans (List.length_filter_le _ _) (by omega)
      have ek : (B.find? (hitF e.nu e.pl)).map (fun f => f.nu) = ((due.filter fun f => decide (f.sr.getD (-1) < e.nu)).map fun f => f.nu).head? := by rw [hfind, List.head?_map]
      rw [ek] at k2
      clear ek hfind
      generalize ((due.filter fun f => decide (f.sr.getD (-1) < e.nu)).map fun f => f.nu) = wr at hO hwl k2 ⊢
      have sp07 : Ps P1 P7 := sp6.trans sp7
      have S1 := sh_ints wr
      have S2 := sh_nil
      cases wr with
      | nil =>
        walk_at "go"
        refine k2 none none _ P7 (sp01.trans sp07) (fun _ => rfl) (fun h => absurd (hst.symm.trans h) (by decide)) ?_
        rw [(ss_done lt1 lt2 hst).1, (ss_done lt1 lt2 hst).2, set_mid A B fD e]
        walk_at "fin"
        · exact Dv.of (sp07 _ mvr1)
        · exact Dv.set _ (Dv1.tup (sp07 _ mp1) (Dv.cons (Dv1.int _) (Dv.cons (Dv1.int _) (Dv.cons (Dv1.bl _) (Dv.cons Dv1.non Dv.nil))))) (Dv.of (sp07 _ mvf1))
      | cons w0 ws =>
        have adw : atI ((w0 :: ws).map V.int) (0 : Int) = some (V.int w0) := atI_nat (xs := (w0 :: ws).map V.int) (j := 0) rfl
        walk_at "go"
        refine iteD (fun _ => ?_) (fun h => absurd rfl h)
        walk_at "go"
        refine k2 none none _ P7 (sp01.trans sp07) (fun _ => rfl) (fun h => absurd (hst.symm.trans h) (by decide)) ?_
        rw [(ss_done lt1 lt2 hst).1, (ss_done lt1 lt2 hst).2, set_mid A B fD e]
        walk_at "fin"
        · exact Dv.of (sp07 _ mvr1)
        · exact Dv.set _ (Dv1.tup (sp07 _ mp1) (Dv.cons (Dv1.int _) (Dv.cons (Dv1.int _) (Dv.cons (Dv1.bl _) (Dv.cons Dv1.non Dv.nil))))) (Dv.of (sp07 _ mvf1))
end
end K77

set_option Elab.async false
set_option linter.all false
set_option maxRecDepth 100000
set_option maxHeartbeats 8000000

namespace K77
open PySem PySem.Spec PyProof.Rows L2 Hx 
local macro_rules | `(tactic| walk_at "sm") => `(tactic| repeat' (first | assumption | apply Hx.Same.upd | exact L2.Same.refl _ | apply same_trans'))
local macro_rules | `(tactic| walk_at "hp") => `(tactic| repeat' (first | assumption | exact upd_same | apply old_upd | apply same_at))
local macro_rules | `(tactic| walk_at "rd") => `(tactic| repeat' (first | rfl | apply Exists.intro | apply And.intro | refine iteT ?_ | refine iteF ?_ | exact upd_same | exact SqL.of (by assumption) | exact SqL.of upd_same | exact SqT.of upd_same | exact SqT.of (by assumption) | ((with_reducible show (_ : Int) < _); omega) | ((with_reducible show (_ : Int) ≤ _); omega) | (show (_ : Prop); assumption) | exact Or.inl ⟨_, by assumption, rfl⟩ | exact Or.inl ⟨rfl, _, SqL.of (by assumption)⟩ | exact Or.inl ⟨rfl, _, SqL.of upd_same⟩ | apply old_upd | apply Hx.SqL.new | apply tyl_new | apply Pot.new | exact same_at (by assumption) (by assumption) | exact Or.inl (SqL.of (by assumption)) | exact Or.inl (by assumption) | exact Or.inl (SqL.of upd_same) | exact size_le (Nat.le_of_ble_eq_true rfl) | exact Nat.le_of_ble_eq_true rfl | exact True.intro | exact Or.inl rfl | exact Or.inr rfl | (show (_ : Prop); omega) | (show (_ : Prop); dsimp only; omega) | exact mulw64 (by omega) (by omega) | exact mulw64 (by (try dsimp only); omega) (by (try dsimp only); omega)))
set_option hygiene false in
local macro_rules | `(tactic| walk_at "fl") => `(tactic| simp only [pu_Queues_load_rooms, pi_Queues_load_rooms, pu_Queues_store_rooms, pi_Queues_store_rooms, pu_Queues_loads, pi_Queues_loads, pu_Queues_stores, pi_Queues_stores] at hO)
local macro_rules | `(tactic| walk_at "mem") => `(tactic| ((repeat (first | exact List.Mem.head _ | apply List.Mem.tail | fail)); done))
local macro_rules | `(tactic| walk_at "setat") => `(tactic| ((repeat (first | (with_reducible exact At.head) | (with_reducible apply At.tail) | (with_reducible apply At.app) | fail)); done))
set_option hygiene false in
local macro_rules | `(tactic| walk_at "dv") => `(tactic| ((repeat' (first | exact Dv.nil | exact Dv.of (by walk_at "mem") | exact Dv.ints _ | exact Dv1.of (by walk_at "mem") | exact Dv1.int _ | exact Dv1.non | exact Dv1.bl _ | exact Dv1.str _ | (with_reducible apply Dv.cons) | refine Dv1.tup (by walk_at "mem") ?_ | refine Dv1.lst (by walk_at "mem") ?_ | (with_reducible apply Dv.app) | fail)); done))
local macro_rules | `(tactic| walk_at "ft") => `(tactic| (first | (with_reducible exact Ft.refl) | ((with_reducible apply Ft.toL); focus walk_at "dv") | ((with_reducible apply Ft.toS); focus assumption) | (with_reducible apply Ft.lst) | (with_reducible apply Ft.Le) | (with_reducible apply Ft.dK) | (with_reducible apply Ft.De) | (with_reducible apply Ft.ins) | (with_reducible apply Ft.toL) | (with_reducible apply Ft.toS) | (with_reducible apply Ft.toD) | fail))
local macro_rules | `(tactic| walk_at "sbL") => `(tactic| repeat' (first | (with_reducible exact Sb.refl _) | exact Sb.nil | (with_reducible apply Sb.cons) | (with_reducible apply Sb.app) | (with_reducible exact Pk.one) | (with_reducible exact Pk.here) | (with_reducible exact Pk.all) | (with_reducible apply Pk.skip1) | (with_reducible apply Pk.skipB) | (with_reducible apply Sb.skip) | (with_reducible apply Sb.skipB) | ((with_reducible show Ft _ _ _ _); walk_at "ft") | ((with_reducible show (_ : List _) = _); (first | rfl | (simp [List.map_set, List.map_append]; done) | fail)) | fail))
local macro_rules | `(tactic| walk_at "sb") => `(tactic| ((walk_at "sbL"); done))
local macro_rules | `(tactic| walk_at "ps") => `(tactic| ((repeat' (first | (with_reducible exact Ps.refl) | exact Ps.nil | (with_reducible apply Ps.cons) | exact List.Mem.head _ | apply List.Mem.tail | (with_reducible apply Ps.skip) | fail)); done))
set_option hygiene false in
local macro_rules | `(tactic| walk_at "at") => `(tactic| first | assumption | exact Own.raw hO (by walk_at "mem") | exact Own.ptup hO (by walk_at "mem") | exact Own.plst hO (by walk_at "mem") | fail)
set_option hygiene false in
local macro_rules | `(tactic| walk_at "st") => `(tactic| (rw [upd_mkO hO]; generalize e : updX _ _ _ = H1; (first | ((apply Own.cset hO e); (focus walk_at "setat"); (try clear hO e); intro hO) | ((apply Own.cnewT hO e); (focus assumption); (try clear hO e); intro hO) | ((apply Own.cnew hO e); (focus assumption); (try clear hO e); intro hO) | fail)))
set_option hygiene false in
local macro_rules | `(tactic| walk_at "mk") => `(tactic| (intro p1 p2 f1 f2 f3; rw [upd_mkO hO]; generalize e : upd (updX _ _ _) _ _ = H1; apply Own.cmake hO f1 f2 f3 e; (try clear hO e); intro hO))
set_option hygiene false in
local macro_rules | `(tactic| walk_at "own") => `(tactic| (first | ((apply Own.sub hO); (focus walk_at "sb"); (focus walk_at "ps")) | ((apply Own.sub hF); (focus walk_at "sb"); (focus walk_at "ps")) | fail))
set_option hygiene false in
local macro_rules | `(tactic| walk_at "fin") => `(tactic| (refine Own.sub hO ?_ (by walk_at "ps"); walk_at "sbL"))
set_option hygiene false in
local macro_rules | `(tactic| walk_at "g1") => `(tactic| (first
 | ((with_reducible show (_ : Option HO) = _); walk_at "at")
 | ((with_reducible show (_ : Int) < _); omega) | ((with_reducible show (_ : Int) ≤ _); omega)
 | ((with_reducible show (_ : Nat) < _); (first | assumption | exact Nat.le_of_ble_eq_true rfl | exact size_lt (Nat.le_of_ble_eq_true rfl) | omega | (simp; done) | (simp; omega) | fail))
 | ((with_reducible show (_ : Nat) ≤ _); (first | assumption | exact Nat.le_of_ble_eq_true rfl | exact size_le (Nat.le_of_ble_eq_true rfl) | omega | (simp; done) | (simp; omega) | fail))
 | ((with_reducible show Own _ _ _ _); (first | walk_at "own" | (walk_at "st"; walk_at "own") | fail))
 | ((with_reducible show SqL _ _ _ _); (first | assumption | exact SqL.of (by walk_at "at") | fail))
 | ((with_reducible show SqT _ _ _ _); (first | assumption | exact hO.psq (by walk_at "mem") | exact SqT.of (by walk_at "at") | fail))
  | ((with_reducible show Cls _ _); exact Txt.cl_Queues T) | ((with_reducible show NoAttr _ _ _); exact Txt.n_Queues_load_rooms T) | (with_reducible exact gt_Queues_load_rooms) | ((with_reducible show NoAttr _ _ _); exact Txt.n_Queues_store_rooms T) | (with_reducible exact gt_Queues_store_rooms) | ((with_reducible show NoAttr _ _ _); exact Txt.n_Queues_loads T) | (with_reducible exact gt_Queues_loads) | ((with_reducible show NoAttr _ _ _); exact Txt.n_Queues_stores T) | (with_reducible exact gt_Queues_stores)  | ((with_reducible show V.ref _ = V.ref _); (first | rfl | fail))
 | ((with_reducible show DGet _ _ _ _); (first | exact DGet.ki (by walk_at "at") (by assumption) | exact DGet.kiF (by walk_at "at") (by assumption) | fail))
 | ((with_reducible show DPut _ _ _ _ _); exact DPut.ki (by walk_at "at") (by assumption))
 | ((with_reducible show Rd _ _ _); (first | exact Or.inl (by walk_at "at") | exact Or.inr ⟨_, by walk_at "at"⟩ | fail))
 | ((with_reducible show (∃ _ : List (Key × V), _) ∨ _); refine Or.inl ⟨_, by walk_at "at", ?_⟩)
 | ((with_reducible show Dv _ _ _ _); focus walk_at "dv") | ((with_reducible show Dv1 _ _ _ _); focus walk_at "dv")
 | ((with_reducible show IsD _ _); exact Or.inl ⟨_, Or.inl (by walk_at "at")⟩)
 | ((with_reducible show V.int _ = kV _); exact kV_int)
 | ((with_reducible show Option.isSome _ = true); (first | exact isSome_ofV (by assumption) | assumption | fail))
 | ((with_reducible show SqL _ _ _ _ ∨ SqT _ _ _ _); (first | exact Or.inl (by assumption) | exact Or.inr (by assumption) | exact Or.inl (SqL.of (by walk_at "at")) | exact Or.inr (SqT.of (by walk_at "at")) | fail))
 | ((with_reducible show Dp _ _ _ _); (first | assumption | exact hO.dpL (by walk_at "mem") | exact .lst (SqL.of (by walk_at "at")) (hO.all (by walk_at "dv")) | exact hO.one (by walk_at "dv") | fail))
 | ((with_reducible show TruV _ _ _ _); (first | exact Or.inl ⟨_, SqL.of (by walk_at "at"), rfl⟩ | exact Or.inr (Or.inr ⟨_, by walk_at "at", rfl⟩) | exact Or.inr (Or.inl ⟨_, SqT.of (by walk_at "at"), rfl⟩) | fail))
 | ((with_reducible show RgOk _ _); exact RgOk.of_le (by omega) (by omega) (by omega) (by omega))
 | rfl | (with_reducible assumption) | apply And.intro | apply Exists.intro | refine iteT ?_ | refine iteF ?_
 | (walk_at "st"; (try walk_at "fl"))
 | ((with_reducible show ∀ _ : Addr, _ = none → _); (fail_if_success (with_reducible show ∀ _ : Addr, _ = none → ∃ _ : Nat → Nat → Hp → Prop, _)); intro p fp; walk_at "st")
 | (refine Or.inl ⟨SqL.of (by walk_at "at"), ?_⟩) | (refine Or.inr ⟨SqT.of (by walk_at "at"), ?_⟩) | exact Or.inl ⟨_, by walk_at "at", rfl⟩ | exact Or.inl ⟨rfl, _, SqL.of (by walk_at "at")⟩ | exact tyl_of (by walk_at "at") | exact Or.inl (SqL.of (by walk_at "at")) | exact Or.inr (SqT.of (by walk_at "at")) | exact Or.inl (by walk_at "at") | exact size_le (Nat.le_of_ble_eq_true rfl) | exact Nat.le_of_ble_eq_true rfl | exact True.intro | exact Or.inl rfl | exact Or.inr rfl | (show (_ : Prop); assumption) | (show (_ : Prop); omega) | (show (_ : Prop); dsimp only; omega) | exact mulw64 (by omega) (by omega) | exact mulw64 (by (try dsimp only); omega) (by (try dsimp only); omega) | fail))
local macro_rules | `(tactic| walk_at "go") => `(tactic| repeat walk_at "g1")

section
variable {P : Program} {w : World} {K : PySem.W.Frag} {mg : Str → Option Value} {base : Heap}
theorem ls_enter {fs : List FE} {e : FE} (hs : e.st = false) (hd : e.dn = false) : lsOf (fs ++ [e]) = lsOf fs ++ [(e.nu, none, none)] ∧ ssOf (fs ++ [e]) = ssOf fs := by
  rw [lsOf_app, ssOf_app]
  refine ⟨?_, ?_⟩
  · congr 1
    simp [lsOf, hs, lrow, hd]
  · simp [ssOf, hs]
theorem ss_enter {fs : List FE} {e : FE} (hs : e.st = true) (hd : e.dn = false) : ssOf (fs ++ [e]) = ssOf fs ++ [(e.nu, none, none)] ∧ lsOf (fs ++ [e]) = lsOf fs := by
  rw [lsOf_app, ssOf_app]
  refine ⟨?_, ?_⟩
  · congr 1
    simp [ssOf, hs, srow, hd]
  · simp [lsOf, hs]
def wtF (fs : List FE) : List Int := (fs.zipIdx.filter fun z => !z.1.dn).map fun z => (z.2 : Int)
theorem wtF_len (fs : List FE) : (wtF fs).length ≤ fs.length := by
  rw [wtF, List.length_map]
  exact Nat.le_trans (List.length_filter_le _ _) (by rw [List.length_zipIdx]; exact Nat.le_refl _)
theorem wtF_mem {fs : List FE} {z : Int} (h : z ∈ wtF fs) : ∃ (A B : List FE) (e : FE), fs = A ++ e :: B ∧ e.dn = false ∧ z = (A.length : Int) := by
  obtain ⟨q, hq, rfl⟩ := List.mem_map.mp h
  obtain ⟨h1, h2⟩ := List.mem_filter.mp hq
  obtain ⟨j, hj, e⟩ := List.getElem_of_mem h1
  have e2 : fs.zipIdx[j]? = some q := by rw [List.getElem?_eq_getElem hj, e]
  rw [List.getElem?_zipIdx] at e2
  obtain ⟨r, hr, rfl⟩ := Option.map_eq_some_iff.mp e2
  have hlt := (List.getElem?_eq_some_iff.mp hr).1
  have hge := (List.getElem?_eq_some_iff.mp hr).2
  refine ⟨fs.take j, fs.drop (j + 1), r, ?_, by simpa using h2, by simp; omega⟩
  rw [← hge, List.getElem_cons_drop, List.take_append_drop]
theorem wtF_first {e : FE} {fs : List FE} (h : e.dn = false) : (wtF (e :: fs))[0]? = some 0 := by
  rw [wtF, List.zipIdx_cons, List.filter_cons, if_pos (by simp [h])]; rfl
theorem wtF_nil {fs : List FE} (h : wtF fs = []) : ∀ e ∈ fs, e.dn = true := fun e he => by
  obtain ⟨j, hj, q⟩ := List.getElem_of_mem he
  cases hd : e.dn with
  | true => rfl
  | false =>
    have : ((j : Nat) : Int) ∈ wtF fs := by
      refine List.mem_map.mpr ⟨(e, j), List.mem_filter.mpr ⟨?_, by simp [hd]⟩, rfl⟩
      rw [List.mem_zipIdx_iff_getElem?]
      rw [List.getElem?_eq_getElem hj, q]
    rw [h] at this; simp at this
theorem mu_le {n s0 : Nat} {fs : List FE} (h : n ≤ 9) : mu n s0 fs ≤ 27 := by
  unfold mu; split <;> omega
theorem mu_step {n s0 s1 i : Nat} {fs fs' : List FE} (h : mu n s0 fs + (i - 100) ≤ 27 ∨ mu n s0 fs = 0) (hb : n ≤ 9) (hs : 100 ≤ i → mu n s1 fs' < mu n s0 fs ∨ mu n s1 fs' = 0) : mu n s1 fs' + (i + 1 - 100) ≤ 27 ∨ mu n s1 fs' = 0 := by
  have := mu_le (n := n) (s0 := s1) (fs := fs') hb
  by_cases c : 100 ≤ i
  · have := hs c; omega
  · omega
theorem mu_zero {n s0 : Nat} {fs : List FE} (h : mu n s0 fs = 0) (hl : s0 + fs.length ≤ n) : s0 = n ∧ fs = [] := by
  unfold mu at h
  cases fs with
  | nil => simp at h hl; exact ⟨by omega, rfl⟩
  | cons e fs => simp only [List.length_cons] at hl; cases hd : e.dn <;> simp [hd] at h <;> omega
def gotK (rs : List RW) (s0 : Nat) : List (Option Int) := (List.range rs.length).map fun k => if k < s0 then dueK rs k else none
theorem gotK_zero (rs : List RW) : gotK rs 0 = List.replicate rs.length none := by
  rw [gotK]
  refine List.ext_getElem (by simp) fun i h1 h2 => by simp
theorem gotK_all (rs : List RW) : gotK rs rs.length = (List.range rs.length).map fun k => dueK rs k := by
  rw [gotK]
  refine List.map_congr_left fun k hk => ?_
  rw [if_pos (List.mem_range.mp hk)]
theorem gotK_set (rs : List RW) (s0 : Nat) : (gotK rs s0).set s0 (dueK rs s0) = gotK rs (s0 + 1) := by
  refine List.ext_getElem (by simp [gotK]) fun i h1 h2 => ?_
  rw [List.getElem_set]
  simp only [gotK, List.getElem_map, List.getElem_range]
  by_cases e : s0 = i
  · subst e; rw [if_pos rfl, if_pos (by omega)]
  · rw [if_neg e]
    by_cases c : i < s0
    · rw [if_pos c, if_pos (by omega)]
    · rw [if_neg c, if_neg (by omega)]
theorem dv_oVs {K : PySem.W.Frag} {P : List Pf} : ∀ xs : List (Option Int), Dv K P (xs.map oV) (xs.map oD)
  | [] => Dv.nil
  | x :: xs => Dv.cons (Dv1.oV x) (dv_oVs xs)
theorem sh_oDs (xs : List (Option Int)) : SeqAt.shaped (.list (xs.map oD)) = true := by
  have l : PyData.canLayAll0 (xs.map oD) = true := by
    induction xs with
    | nil => simp [PyData.canLayAll0]
    | cons x xs ih => cases x <;> simp [PyData.canLayAll0, PyData.canLay0, oD] <;> exact ih
  have d : PyData.depthAll (xs.map oD) = 0 := by
    clear l
    induction xs with
    | nil => simp [PyData.depthAll]
    | cons x xs ih => cases x <;> simp [PyData.depthAll, PyData.depth, oD] <;> exact ih
  show (PyData.canLay0 _ && decide (PyData.depth _ ≤ 64)) = true
  rw [Bool.and_eq_true]
  refine ⟨by simp only [PyData.canLay0]; exact l, decide_eq_true ?_⟩
  simp only [PyData.depth]
  omega
theorem keepPP {K : PySem.W.Frag} {H : Hp} {L : List (Addr × Ob)} {P : List Pf} {G : Prop} {vr : List V} {ds : List PyData} (hO : Own K H L P) (m : Pf.dp vr ds ∈ P) (k : ∀ P0, Pf.dp vr ds ∈ P0 → Own K H L P0 → G) : G := k P m hO
theorem sh_fl (fs : List FE) : SeqAt.shaped (.list (fs.map fD)) = true := by
  have l : PyData.canLayAll0 (fs.map fD) = true := by
    induction fs with
    | nil => simp [PyData.canLayAll0]
    | cons x xs ih =>
      have : (fD x).canLay0 = true := by cases h : x.gt <;> simp [fD, oD, h, PyData.canLay0, PyData.canLayAll0]
      simp [PyData.canLayAll0, this]; simpa using ih
  have d : PyData.depthAll (fs.map fD) ≤ 1 := by
    clear l
    induction fs with
    | nil => simp [PyData.depthAll]
    | cons x xs ih =>
      have : (fD x).depth ≤ 1 := by cases h : x.gt <;> simp [fD, oD, h, PyData.depth, PyData.depthAll]
      simp only [List.map_cons, PyData.depthAll]
      omega
  show (PyData.canLay0 _ && decide (PyData.depth _ ≤ 64)) = true
  rw [Bool.and_eq_true]
  refine ⟨by simp only [PyData.canLay0]; exact l, decide_eq_true ?_⟩
  simp only [PyData.depth]
  omega
theorem Fl.start (rs : List RW) : Fl rs [1, 2, 3] 0 [] 0 :=
  ⟨rfl, Nat.zero_le _, (fun _ h => nomatch h), List.Pairwise.nil, (fun _ h => nomatch h), Int.le_refl _, (memK_zero rs).symm, fun A e B h => by cases A <;> simp at h, (fun _ h => nomatch h)⟩
def sp_Lright (K : PySem.W.Frag) : Sp := fun vs H Q _ => ∃ (a : Addr) (R : List (Addr × Ob)) (P : List Pf), vs = [.ref a] ∧ Own K H (pt a ++ R) P ∧ ∀ (H' : Hp), Q (.bl true) H'
theorem ok_Lright (T : Txt K mg) : FnOk P w K mg base CX0 7 T.f_Lright T.fd_Lright ["_law_pot_here"] (sp_Lright K) := by
  have G_Lrows := ok_Lrows (P := P) (w := w) (base := base) T
  have G_Lplain := ok_Lplain (P := P) (w := w) (base := base) T
  have G_Queues_init := ok_Queues_init (P := P) (w := w) (base := base) T
  have G_Ldraw := ok_Ldraw (P := P) (w := w) (base := base) T
  have G_Queues_can_store := ok_Queues_can_store (P := P) (w := w) (base := base) T
  have G_Queues_can_load := ok_Queues_can_load (P := P) (w := w) (base := base) T
  have G_Queues_store_entered := ok_Queues_store_entered (P := P) (w := w) (base := base) T
  have G_Queues_load_entered := ok_Queues_load_entered (P := P) (w := w) (base := base) T
  have G_Queues_leave := ok_Queues_leave (P := P) (w := w) (base := base) T
  have G_Ldone := ok_Ldone (P := P) (w := w) (base := base) T
  have G_Queues_dropped := ok_Queues_dropped (P := P) (w := w) (base := base) T
  refine T.F_Lright.ok sc_Lright (fun vs H Q E h => ?_) (fun cdv A outer s H vs Q E hr h => ?_)
  · obtain ⟨pa, R, P, rfl, hO, k⟩ := h; rfl
  · obtain ⟨pa, R, P, rfl, hO, k⟩ := h
    refine ⟨_, (pss_cons (ps_set (i := 1) sc_Lright.nd rfl (Or.inl rfl) (pe_call G_Lrows (hr.mono (by decide)) rfl T.g_Lrows T.F_Lrows.kp T.b_Lrows .nil pass0 (pa_cons (pv 0) pa_nil)))
        (pss_cons (ps_asg (pe_call G_Lplain (hr.mono (by decide)) rfl T.g_Lplain T.F_Lplain.kp T.b_Lplain .nil pass0 (pa_cons (pv 1) pa_nil)) (pg_tup rfl (pgs_cons (pg_name (i := 2) sc_Lright.nd rfl (Or.inl rfl)) (pgs_cons (pg_name (i := 3) sc_Lright.nd rfl (Or.inl rfl)) pgs_nil))))
        (pss_cons (ps_par (i := 4) (j := 5) rfl sc_Lright.nd rfl rfl (by decide) rfl rfl (pa_cons (pe_make T.mk_Queues G_Queues_init (hr.mono (by decide)) rfl T.g_Queues T.b_Queues_init .nil pass0 (pa_cons (pe_op op_add pe_int (pe_call G_Ldraw (hr.mono (by decide)) rfl T.g_Ldraw T.F_Ldraw.kp T.b_Ldraw .nil pass0 (pa_cons (pv 0) (pa_cons pe_int pa_nil)))) (pa_cons (pe_op op_add pe_int (pe_call G_Ldraw (hr.mono (by decide)) rfl T.g_Ldraw T.F_Ldraw.kp T.b_Ldraw .nil pass0 (pa_cons (pv 0) (pa_cons pe_int pa_nil)))) pa_nil))) (pa_cons (pe_lst (pa_cons pe_int (pa_cons pe_int (pa_cons pe_int pa_nil)))) pa_nil)) (by rfl))
        (pss_cons (ps_asg (pe_tup (pa_cons (pe_lst pa_nil) (pa_cons pe_int (pa_cons pe_int (pa_cons (pe_op op_rep (pe_lst (pa_cons pe_non pa_nil)) (pe_callB call_len_list (by rfl) T.m_len (by decide +kernel) (pa_cons (pv 1) pa_nil))) pa_nil))))) (pg_tup rfl (pgs_cons (pg_name (i := 6) sc_Lright.nd rfl (Or.inl rfl)) (pgs_cons (pg_name (i := 7) sc_Lright.nd rfl (Or.inl rfl)) (pgs_cons (pg_name (i := 8) sc_Lright.nd rfl (Or.inl rfl)) (pgs_cons (pg_name (i := 9) sc_Lright.nd rfl (Or.inl rfl)) pgs_nil))))))
        (pss_cons (ps_forS PassesOwn.never rfl (pi_range1 rfl T.m_range (pa_cons pe_int pa_nil)) (pg_name (i := 10) sc_Lright.nd rfl (Or.inl rfl))
          (pss_cons (ps_setLc (i := 12) (own := [("_law_at", 11), ("_law_one", 20)]) (g := gTup _ 2 (gCons (gName 11) (gCons (gName 20) gNil))) (tt := tNot (tB (tOp (rIxT K) (tVar 20) (tC (.int 2))))) rfl sc_Lright.nd rfl rfl (sw_true rfl rfl rfl (by decide +kernel)) (pi_enum rfl T.m_enumerate (pa_cons (pv 6) pa_nil)) (blkOk_by (N := ["_law_pot_here", "_law_rows_here", "_law_due", "_law_last", "_law_queues", "_law_memory", "_law_flight", "_law_upcoming", "_law_number", "_law_got", "_law_turn", "_law_at", "_law_waiting", "_law_way", "_law_can", "_law_spot", "_law_oldest", "_law_is_done", "_law_told", "_law_early", "_law_one"]) (sc := defScope s_Lright) (by decide +kernel)) (fun _ _ _ _ _ => pg_pair (i := 11) (j := 20) rfl sc_Lright.nd rfl rfl (Or.inl rfl) (Or.inl rfl)) (fun _ _ _ _ _ => pts_one (pt_not (pt_val (pe_ix ix_tup (pv 20) pe_int (fun _ _ => rfl))))) (fun _ _ _ _ _ => (pv 11)))
          (pss_cons (ps_set (i := 13) sc_Lright.nd rfl (Or.inl rfl) (pe_mid (pe_ifExp (pt_cmpR op_lt (pv 10) pe_int (nomark _)) (pe_call G_Ldraw (hr.mono (by decide)) rfl T.g_Ldraw T.F_Ldraw.kp T.b_Ldraw .nil pass0 (pa_cons (pv 0) (pa_cons pe_int pa_nil))) pe_int)))
          (pss_cons (ps_set (i := 14) sc_Lright.nd rfl (Or.inl rfl) (pe_mid (pe_and (pe_cmpR op_lt (pv 7) (pe_callB call_len_list (by rfl) T.m_len (by decide +kernel) (pa_cons (pv 1) pa_nil)) (nomark _)) (pe_one (pe_ifExp (pt_val (pe_ix ix_tup (pe_ix ix_list (pv 1) (pv 7) (fun _ _ => rfl)) pe_int (fun _ _ => rfl))) (pe_prop (pv 4) T.cl_Queues T.p_Queues_can_store G_Queues_can_store (hr.mono (by decide)) T.b_Queues_can_store .nil pass0 rfl) (pe_prop (pv 4) T.cl_Queues T.p_Queues_can_load G_Queues_can_load (hr.mono (by decide)) T.b_Queues_can_load .nil pass0 rfl))))))
          (pss_one (ps_if (pt_mid (PW.pt (pw_and (pt_val (pv 14)) (pw_and1 (PW.pt (pw_or (pt_cmpR op_lt (pv 13) pe_int (nomark _)) (pw_or1 (pt_cmpR (op_eqD hr.units) (pv 6) (pe_lst pa_nil) (nomark _)))))))))
            (pss_cons (ps_if (pt_val (pe_ix ix_tup (pe_ix ix_list (pv 1) (pv 7) (fun _ _ => rfl)) pe_int (fun _ _ => rfl)))
              (pss_one (ps_expr (pe_meth (pv 4) T.cl_Queues T.me_Queues_store_entered G_Queues_store_entered (hr.mono (by decide)) T.b_Queues_store_entered .nil pass0 (pa_cons (pv 8) pa_nil))))
              (pss_one (ps_expr (pe_meth (pv 4) T.cl_Queues T.me_Queues_load_entered G_Queues_load_entered (hr.mono (by decide)) T.b_Queues_load_entered .nil pass0 (pa_cons (pv 8) pa_nil)))))
            (pss_cons (ps_expr (pe_bm PySem.F.plainAttrs_list PySem.F.slot_list_append PySem.F.type_list_append mt_append (pv 6) (pa_cons (pe_tup (pa_cons (pv 7) (pa_cons (pv 8) (pa_cons pe_bl (pa_cons pe_non pa_nil))))) pa_nil)))
            (pss_one (ps_par (i := 7) (j := 8) rfl sc_Lright.nd rfl rfl (by decide) rfl rfl (pa_cons (pe_op op_add (pv 7) pe_int) (pa_cons (pe_op op_add (pv 8) pe_int) pa_nil)) (by rfl)))))
            (pss_one (ps_if (pt_mid (PW.pt (pw_and (pt_cmpR (op_neD hr.units) (pv 6) (pe_lst pa_nil) (nomark _)) (pw_and (pt_val (pe_ix ix_tup (pe_ix ix_list (pv 6) pe_int (fun _ _ => rfl)) pe_int (fun _ _ => rfl))) (pw_and1 (PW.pt (pw_or (pt_cmpR op_eq (pv 13) pe_int (nomark _)) (pw_or1 (pt_cmpR (op_eqD hr.units) (pv 12) (pe_lst pa_nil) (nomark _))))))))))
              (pss_cons (ps_asg (pe_ix ix_list (pv 6) pe_int (fun _ _ => rfl)) (pg_tup rfl (pgs_cons (pg_name (i := 15) sc_Lright.nd rfl (Or.inl rfl)) (pgs_cons (pg_name (i := 16) sc_Lright.nd rfl (Or.inl rfl)) (pgs_cons (pg_name (i := 17) sc_Lright.nd rfl (Or.inl rfl)) (pgs_cons (pg_name (i := 18) sc_Lright.nd rfl (Or.inl rfl)) pgs_nil))))))
              (pss_cons (ps_if (pt_val (pe_ix ix_tup (pe_ix ix_list (pv 1) (pv 15) (fun _ _ => rfl)) pe_int (fun _ _ => rfl)))
                (pss_one (ps_asg (pe_ix ix_tup (pe_ix ix_list (pv 1) (pv 15) (fun _ _ => rfl)) pe_int (fun _ _ => rfl)) (pg_sub (pv 5) (pe_ix ix_tup (pe_ix ix_list (pv 1) (pv 15) (fun _ _ => rfl)) pe_int (fun _ _ => rfl)) set_list)))
                pss_nil)
              (pss_cons (ps_asg (pv 18) (pg_sub (pv 9) (pv 15) set_list))
              (pss_cons (ps_expr (pe_meth (pv 4) T.cl_Queues T.me_Queues_leave G_Queues_leave (hr.mono (by decide)) T.b_Queues_leave .nil pass0 (pa_cons (pv 16) pa_nil)))
              (pss_one (ps_set (i := 6) sc_Lright.nd rfl (Or.inl rfl) (pe_slice sl_list (pv 6) (po_some pe_int) po_none)))))))
              (pss_one (ps_if (pt_mid (pt_cmpR (op_neD hr.units) (pv 12) (pe_lst pa_nil) (nomark _)))
                (pss_cons (ps_set (i := 11) sc_Lright.nd rfl (Or.inl rfl) (pe_mid (pe_ifExp (pt_cmpR op_lt (pv 10) pe_int (nomark _)) (pe_ix ix_list (pv 12) (pe_op op_mod (pe_call G_Ldraw (hr.mono (by decide)) rfl T.g_Ldraw T.F_Ldraw.kp T.b_Ldraw .nil pass0 (pa_cons (pv 0) (pa_cons pe_int pa_nil))) (pe_callB call_len_list (by rfl) T.m_len (by decide +kernel) (pa_cons (pv 12) pa_nil))) (fun _ _ => rfl)) (pe_ix ix_list (pv 12) pe_int (fun _ _ => rfl)))))
                (pss_cons (ps_set (i := 19) sc_Lright.nd rfl (Or.inr rfl) (pe_call G_Ldone (hr.mono (by decide)) rfl T.g_Ldone T.F_Ldone.kp T.b_Ldone .nil pass0 (pa_cons (pv 4) (pa_cons (pv 5) (pa_cons (pv 1) (pa_cons (pv 6) (pa_cons (pv 11) pa_nil)))))))
                (pss_cons (ps_if (pt_cmpR op_eq (pv 19) (pe_un un_neg pe_int) (nomark _))
                  (pss_one (ps_ret pe_bl))
                  pss_nil)
                (pss_one (ps_if (pt_cmpR op_notN (pv 19) pe_non (nomark _))
                  (pss_cons (ps_set (i := 7) sc_Lright.nd rfl (Or.inl rfl) (pe_ix ix_list (pe_lc (own := [("_law_one", 20)]) (g := gName 20) (te := (tOp (rIxT K) (tVar 20) (tC (.int 0)))) (tt := (tTest (tOp rEq (tOp (rIxT K) (tVar 20) (tC (.int 1))) (tVar 19)))) rfl sc_Lright.nd (pi_list (pv 6)) (blkOk_by (N := ["_law_pot_here", "_law_rows_here", "_law_due", "_law_last", "_law_queues", "_law_memory", "_law_flight", "_law_upcoming", "_law_number", "_law_got", "_law_turn", "_law_at", "_law_waiting", "_law_way", "_law_can", "_law_spot", "_law_oldest", "_law_is_done", "_law_told", "_law_early", "_law_one"]) (sc := defScope s_Lright) (by decide +kernel)) (fun _ _ _ _ _ => pg_name (i := 20) sc_Lright.nd rfl (Or.inl rfl)) (fun _ _ _ _ _ => pts_one (pt_cmpR op_eq (pe_ix ix_tup (pv 20) pe_int (fun _ _ => rfl)) (pv 19) (nomark _))) (fun _ _ _ _ _ => (pe_ix ix_tup (pv 20) pe_int (fun _ _ => rfl)))) pe_int (fun _ _ => rfl)))
                  (pss_cons (ps_expr (pe_meth (pv 4) T.cl_Queues T.me_Queues_dropped G_Queues_dropped (hr.mono (by decide)) T.b_Queues_dropped .nil pass0 (pa_cons (pv 19) pa_nil)))
                  (pss_one (ps_setLc (i := 6) (own := [("_law_one", 20)]) (g := gName 20) (tt := (tTest (tOp (rI0 fun i j => .bl (decide (i < j))) (tOp (rIxT K) (tVar 20) (tC (.int 1))) (tVar 19)))) rfl sc_Lright.nd rfl rfl (sw_true rfl rfl rfl (by decide +kernel)) (pi_list (pv 6)) (blkOk_by (N := ["_law_pot_here", "_law_rows_here", "_law_due", "_law_last", "_law_queues", "_law_memory", "_law_flight", "_law_upcoming", "_law_number", "_law_got", "_law_turn", "_law_at", "_law_waiting", "_law_way", "_law_can", "_law_spot", "_law_oldest", "_law_is_done", "_law_told", "_law_early", "_law_one"]) (sc := defScope s_Lright) (by decide +kernel)) (fun _ _ _ _ _ => pg_name (i := 20) sc_Lright.nd rfl (Or.inl rfl)) (fun _ _ _ _ _ => pts_one (pt_cmpR op_lt (pe_ix ix_tup (pv 20) pe_int (fun _ _ => rfl)) (pv 19) (nomark _))) (fun _ _ _ _ _ => (pv 20))))))
                  pss_nil)))))
                pss_nil))))))))))
        (pss_one (ps_ret (pe_and (pe_cmpR (op_eqS hr.units) (pv 9) (pv 2) (nomark _)) (pe_and (pe_cmpR (op_eqS hr.units) (pv 5) (pv 3) (nomark _)) (pe_and (pe_cmpR (op_eqD hr.units) (pv 6) (pe_lst pa_nil) (nomark _)) (pe_one (pe_cmpR op_eq (pv 7) (pe_callB call_len_list (by rfl) T.m_len (by decide +kernel) (pa_cons (pv 1) pa_nil)) (nomark _))))))))))))), ?_⟩
    clear G_Lrows G_Lplain G_Queues_init G_Ldraw G_Queues_can_store G_Queues_can_load G_Queues_store_entered G_Queues_load_entered G_Queues_leave G_Ldone G_Queues_dropped
    clear hr
    walk_at "go"
    intro rw rs H1 P1 sp1 ok hO
    walk_at "go"
    intro tt due last H2 P2 sp2 mt hO
    replace hO := hO.derive (q := .tup tt [.ref due, .ref last]) fun M h => h _ mt
    walk_at "go"
    intro d1 H3 a0 a1 hO
    walk_at "go"
    intro d2 H4 b0 b1 hO
    walk_at "go"
    walk_at "mk"
    walk_at "go"
    intro l0 s0q H5 hO
    obtain ⟨vr, o1⟩ := hO.openL (a := rw) (by walk_at "mem")
    replace hO := o1 _ (by walk_at "setat")
    clear o1
    have hvr := (hO.pdp List.mem_cons_self).len
    rw [List.length_map] at hvr
    have hn9 := ok.n9
    have szr : vr.length ≤ sizeLine := size_le (by omega)
    walk_at "go"
    have mvr0 : Pf.dp vr (rs.map rwD) ∈ (Pf.dp vr (rs.map rwD) :: Pf.tup tt [.ref due, .ref last] :: P2) := List.mem_cons_self
    have er : (List.replicate ((vr.length : Nat) : Int).toNat [V.non]).flatten = (gotK rs 0).map oV := by rw [gotK_zero, List.map_replicate, Int.toNat_natCast, hvr, List.flatten_replicate_singleton]; rfl
    rw [er] at hO
    refine keepPP hO (by walk_at "mem") fun P0 mP0 hO => ?_
    refine ⟨for_range (n := ((160 : Int)).toNat) (fun i σ H' => Stop (∃ (m fl gt l s : Addr) (t10 t11 t12 t13 t14 t15 t16 t17 t18 t19 t20 : Option V) (fs : List FE) (s0 : Nat) (nx up : Int) (P' : List Pf), σ = [some (.ref pa), some (.ref rw), some (.ref due), some (.ref last), some (.ref p1), some (.ref m), some (.ref fl), some (.int up), some (.int nx), some (.ref gt), t10, t11, t12, t13, t14, t15, t16, t17, t18, t19, t20] ∧ up = ((s0 + fs.length : Nat) : Int) ∧ Fl rs (memK rs s0) s0 fs nx ∧ (mu rs.length s0 fs + (i - 100) ≤ 27 ∨ mu rs.length s0 fs = 0) ∧ Own K H' (pt pa ++ (qu T.C_Queues p1 p2 l s (1 + d1) (1 + d2) (lsOf fs) (ssOf fs) ++ ((m, .raw (.lst ((memK rs s0).map V.int))) :: (rw, .L (rs.map rwD)) :: (fl, .L (fs.map fD)) :: (gt, .raw (.lst ((gotK rs s0).map oV))) :: (due, .raw (.lst (((List.range rs.length).map fun k => dueK rs k).map oV))) :: (last, .raw (.lst ((memK rs rs.length).map V.int))) :: R))) P')) ⟨⟨_, _, _, l0, s0q, none, none, none, none, none, none, none, none, none, none, none, [], 0, 0, 0, P0, rfl, rfl, Fl.start rs, .inl (by have := mu_le (n := rs.length) (s0 := 0) (fs := []) hn9; omega), ?_⟩⟩ (fun i σ H' hi h => ?_) (fun σ H' h => ?_)⟩
    · rw [show lsOf [] = [] from rfl, show ssOf [] = [] from rfl]
      walk_at "fin"
      all_goals first | exact Dv.nil | exact Dv.of mP0
    · clear hO er
      obtain ⟨m, fl, gt, l, s, t10, t11, t12, t13, t14, t15, t16, t17, t18, t19, t20, fs, s0, nx, up, P', rfl, rfl, hF, hmu, hO⟩ := h.h
      clear h
      have hle := hF.le
      have hls := ls_len fs
      have hss := ss_len fs
      have hfs9 : fs.length ≤ 9 := by omega
      obtain ⟨vr, o1⟩ := hO.openL (a := rw) (by walk_at "mem")
      replace hO := o1 _ (by walk_at "setat")
      clear o1
      have hvr := (hO.pdp List.mem_cons_self).len
      rw [List.length_map] at hvr
      obtain ⟨vf, o1⟩ := hO.openL (a := fl) (by walk_at "mem")
      replace hO := o1 _ (by walk_at "setat")
      clear o1
      have hvf := (hO.pdp List.mem_cons_self).len
      rw [List.length_map] at hvf
      walk_at "go"
      intro D hD
      refine lc_siftW fs.zipIdx (fun z => V.int (z.2 : Nat)) (fun z => !z.1.dn) (by rw [List.length_zipIdx, ← hvf]; exact walk_enum) hO hD (by rw [List.length_zipIdx]; omega) (fun H L' P' m t h => SqL.of (h.raw (m _ (by walk_at "mem")))) (fun j z x H9 H' P' ys Qn Qy hz2 hY sp hO kn ky => ?_) (fun H5 P5 sp5 hO => ?_)
      · obtain ⟨T0, u, v, rfl, hT, rfl, e1, e2⟩ := hY
        obtain rfl : V.int (j : Nat) = u := Option.some.inj e1
        rw [List.getElem?_zipIdx] at hz2
        obtain ⟨r, hr, rfl⟩ := Option.map_eq_some_iff.mp hz2
        have e3 : vf[j]? = some v := e2
        replace hO := hO.newT (vs := [.int (j : Nat), v]) hT rfl
        obtain ⟨t, rfl, hO⟩ := opnF hO (r := r) (Dv.get (vs := vf) (ds := fs.map fD) (Dv.of (List.mem_cons_of_mem _ (sp _ (by walk_at "mem")))) e3 (by rw [List.getElem?_map, hr]; rfl))
        dsimp only at hO kn ky
        generalize upd H9 T0 (.tup [.int (j : Nat), .ref t]) = H3 at hO ⊢
        rw [Nat.zero_add] at ky
        cases hd : r.dn with
        | false =>
          rw [hd] at hO
          walk_at "go"
          exact ky (by simp [hd]) _ _ (by walk_at "ps") hO
        | true =>
          rw [hd] at hO
          walk_at "go"
          exact kn (by simp [hd]) _ _ (by walk_at "ps") hO
      have ew : (fs.zipIdx.filter fun z => !z.1.dn).map (fun z => V.int (z.2 : Nat)) = (wtF fs).map V.int := by rw [wtF, List.map_map]; rfl
      rw [ew] at hO
      clear ew
      have mvf : Pf.dp vf (fs.map fD) ∈ P5 := sp5 _ List.mem_cons_self
      have mvr : Pf.dp vr (rs.map rwD) ∈ P5 := sp5 _ (List.mem_cons_of_mem _ List.mem_cons_self)
      clear sp5
      walk_at "go"
      refine Stop.mk ⟨fun v H' => Stop (∃ way : Int, v = .int way ∧ (100 ≤ i → way = 3) ∧ Own K H' ((D, .raw (.lst ((wtF fs).map V.int))) :: (pt pa ++ (qu T.C_Queues p1 p2 l s (1 + d1) (1 + d2) (lsOf fs) (ssOf fs) ++ ((m, .raw (.lst ((memK rs s0).map V.int))) :: (rw, .raw (.lst vr)) :: (fl, .raw (.lst vf)) :: (gt, .raw (.lst ((gotK rs s0).map oV))) :: (due, .raw (.lst (((List.range rs.length).map fun k => dueK rs k).map oV))) :: (last, .raw (.lst ((memK rs rs.length).map V.int))) :: R)))) P5), ?_, fun v H' hM => ?_⟩
      · walk_at "go"
        refine iteD (fun h => ?_) (fun h => ?_)
        · walk_at "go"
          intro dw H6 w0 w1 hO
          exact ⟨⟨dw, rfl, fun h2 => by omega, by walk_at "fin"⟩⟩
        · walk_at "go"
          exact ⟨⟨3, rfl, fun _ => rfl, by walk_at "fin"⟩⟩
      clear hO
      obtain ⟨way, rfl, hway, hO⟩ := hM.h
      clear hM
      walk_at "go"
      have hsz : vr.length ≤ sizeLine := size_le (by omega)
      refine Stop.mk ⟨fun v H' => Stop (∃ c : Bool, v = .bl c ∧ (c = true → ∃ r, rs[s0 + fs.length]? = some r ∧ (r.1 = true → ((ssOf fs).length : Int) < 1 + d2) ∧ (r.1 = false → ((lsOf fs).length : Int) < 1 + d1)) ∧ (c = false → fs = [] → s0 = rs.length) ∧ Own K H' ((D, .raw (.lst ((wtF fs).map V.int))) :: (pt pa ++ (qu T.C_Queues p1 p2 l s (1 + d1) (1 + d2) (lsOf fs) (ssOf fs) ++ ((m, .raw (.lst ((memK rs s0).map V.int))) :: (rw, .raw (.lst vr)) :: (fl, .raw (.lst vf)) :: (gt, .raw (.lst ((gotK rs s0).map oV))) :: (due, .raw (.lst (((List.range rs.length).map fun k => dueK rs k).map oV))) :: (last, .raw (.lst ((memK rs rs.length).map V.int))) :: R)))) P5), ?_, fun v H' hM => ?_⟩
      · walk_at "go"
        by_cases hup : s0 + fs.length < rs.length
        · obtain ⟨r, hr⟩ : ∃ r, rs[s0 + fs.length]? = some r := ⟨_, List.getElem?_eq_getElem hup⟩
          have hvw : vr[s0 + fs.length]? = some (vr[s0 + fs.length]'(by omega)) := List.getElem?_eq_getElem _
          generalize vr[s0 + fs.length]'(by omega) = u at hvw
          obtain ⟨t, rfl, hO⟩ := opnW hO (r := r) (Dv.get (vs := vr) (ds := rs.map rwD) (Dv.of mvr) hvw (by rw [List.getElem?_map, hr]; rfl))
          have ad := atI_nat hvw
          have hupI : ((s0 + fs.length : Nat) : Int) < (vr.length : Int) := by omega
          rw [decide_eq_true hupI]
          obtain ⟨st, rpl, rwd⟩ := r
          dsimp only at hO
          cases st with
          | true =>
            walk_at "go"
            refine ⟨⟨_, rfl, fun h => ⟨_, hr, fun _ => of_decide_eq_true h, fun h => Bool.noConfusion h⟩, fun h h0 => ?_, by walk_at "fin"⟩⟩
            subst h0
            exact absurd (show (([] : List QR).length : Int) < 1 + d2 from by show (0 : Int) < 1 + d2; omega) (of_decide_eq_false h)
          | false =>
            walk_at "go"
            refine ⟨⟨_, rfl, fun h => ⟨_, hr, fun h => Bool.noConfusion h, fun _ => of_decide_eq_true h⟩, fun h h0 => ?_, by walk_at "fin"⟩⟩
            subst h0
            exact absurd (show (([] : List QR).length : Int) < 1 + d1 from by show (0 : Int) < 1 + d1; omega) (of_decide_eq_false h)
        · have hupI : ¬ ((s0 + fs.length : Nat) : Int) < (vr.length : Int) := by omega
          rw [decide_eq_false hupI]
          walk_at "go"
          exact ⟨⟨false, rfl, fun h => absurd h (by decide), fun _ h0 => by subst h0; simp at hup hle; omega, hO⟩⟩
      clear hO
      obtain ⟨can, rfl, hcan, hcan2, hO⟩ := hM.h
      clear hM
      walk_at "go"
      refine Stop.mk ⟨fun b' H' => Stop ((b' = true → can = true ∧ (100 ≤ i → fs = [])) ∧ (b' = false → fs = [] → can = false) ∧ ∃ P', Ps P5 P' ∧ Own K H' ((D, .raw (.lst ((wtF fs).map V.int))) :: (pt pa ++ (qu T.C_Queues p1 p2 l s (1 + d1) (1 + d2) (lsOf fs) (ssOf fs) ++ ((m, .raw (.lst ((memK rs s0).map V.int))) :: (rw, .raw (.lst vr)) :: (fl, .raw (.lst vf)) :: (gt, .raw (.lst ((gotK rs s0).map oV))) :: (due, .raw (.lst (((List.range rs.length).map fun k => dueK rs k).map oV))) :: (last, .raw (.lst ((memK rs rs.length).map V.int))) :: R)))) P'), ?_, fun b' H' hM => ?_⟩
      · have S1 := sh_fl fs
        have S2 := sh_nil
        replace hO := hO.dv (Dv.of mvf)
        cases can with
        | false =>
          walk_at "go"
          exact ⟨⟨fun h => absurd h (by decide), fun _ _ => rfl, P5, Ps.refl, by walk_at "fin"⟩⟩
        | true =>
          walk_at "go"
          refine iteD (fun h => ?_) (fun h => ?_)
          · have h2 : way < 2 := h
            exact ⟨⟨fun _ => ⟨rfl, fun hi => by have := hway hi; omega⟩, fun h => absurd h (by decide), P5, Ps.refl, by walk_at "fin"⟩⟩
          · walk_at "go"
            rw [eqv_nil]
            refine ⟨⟨fun h => ⟨rfl, fun _ => by simpa using h⟩, fun h h0 => ?_, P5, Ps.refl, by walk_at "fin"⟩⟩
            rw [h0] at h
            exact absurd h (by decide)
      clear hO
      obtain ⟨hb1, hb2, P6, sp6, hO⟩ := hM.h
      clear hM
      replace mvf := sp6 _ mvf
      replace mvr := sp6 _ mvr
      clear sp6
      cases b' with
      | true =>
        obtain ⟨hb1, hb3⟩ := hb1 rfl
        obtain ⟨r, hr, hrs, hrl⟩ := hcan hb1
        clear hcan hcan2 hb1 hb2
        have hup := (List.getElem?_eq_some_iff.mp hr).1
        have hvw : vr[s0 + fs.length]? = some (vr[s0 + fs.length]'(by omega)) := List.getElem?_eq_getElem _
        generalize vr[s0 + fs.length]'(by omega) = u at hvw
        obtain ⟨t, rfl, hO⟩ := opnW hO (r := r) (Dv.get (vs := vr) (ds := rs.map rwD) (Dv.of mvr) hvw (by rw [List.getElem?_map, hr]; rfl))
        have ad := atI_nat hvw
        have hz : ∀ z ∈ qkeys (lsOf fs) ++ qkeys (ssOf fs), z < nx := fun z hz => by
          obtain ⟨e, he, rfl⟩ := qk_mem hz
          exact (hF.lo e he).2
        have hl100 : (lsOf fs).length ≤ 100 := by omega
        have hs100 : (ssOf fs).length ≤ 100 := by omega
        have hx0 := hF.nx0
        have hFn := hF.enter hr
        have hmu2 := mu_step (s1 := s0) (fs' := fs ++ [⟨s0 + fs.length, r.1, r.2.1, r.2.2, nx, false, none, none⟩]) hmu hn9 (fun hi => by
          have h0 := hb3 hi
          subst h0
          left
          simp [mu] at hup ⊢
          omega)
        obtain ⟨st, rpl, rwd⟩ := r
        dsimp only at hO hrs hrl hFn hmu2
        have szf : vf.length < sizeLine := size_lt (by omega)
        cases st with
        | true =>
          have hrm := hrs rfl
          walk_at "go"
          intro H7 P7 sp7 hO
          walk_at "go"
          refine keepPs hO fun P8 mP8 sp8 hO => ?_
          refine ⟨⟨m, fl, gt, l, s, _, _, _, _, _, _, _, _, _, _, _, _, s0, nx + 1, _, P8, rfl, by rw [List.length_append, List.length_singleton]; omega, hFn, hmu2, ?_⟩⟩
          rw [(ss_enter (fs := fs) (e := ⟨s0 + fs.length, true, rpl, rwd, nx, false, none, none⟩) rfl rfl).1, (ss_enter (fs := fs) (e := ⟨s0 + fs.length, true, rpl, rwd, nx, false, none, none⟩) rfl rfl).2, List.map_append]
          walk_at "fin"
          · exact Dv.of (sp8 _ (sp7 _ (List.mem_cons_of_mem _ mvr)))
          exact Dv.app (Dv.of (sp8 _ (sp7 _ (List.mem_cons_of_mem _ mvf)))) (Dv.cons (Dv1.tup mP8 (Dv.cons (Dv1.int _) (Dv.cons (Dv1.int _) (Dv.cons (Dv1.bl _) (Dv.cons Dv1.non Dv.nil))))) Dv.nil)
        | false =>
          have hrm := hrl rfl
          walk_at "go"
          intro H7 P7 sp7 hO
          walk_at "go"
          refine keepPs hO fun P8 mP8 sp8 hO => ?_
          refine ⟨⟨m, fl, gt, l, s, _, _, _, _, _, _, _, _, _, _, _, _, s0, nx + 1, _, P8, rfl, by rw [List.length_append, List.length_singleton]; omega, hFn, hmu2, ?_⟩⟩
          rw [(ls_enter (fs := fs) (e := ⟨s0 + fs.length, false, rpl, rwd, nx, false, none, none⟩) rfl rfl).1, (ls_enter (fs := fs) (e := ⟨s0 + fs.length, false, rpl, rwd, nx, false, none, none⟩) rfl rfl).2, List.map_append]
          walk_at "fin"
          · exact Dv.of (sp8 _ (sp7 _ (List.mem_cons_of_mem _ mvr)))
          exact Dv.app (Dv.of (sp8 _ (sp7 _ (List.mem_cons_of_mem _ mvf)))) (Dv.cons (Dv1.tup mP8 (Dv.cons (Dv1.int _) (Dv.cons (Dv1.int _) (Dv.cons (Dv1.bl _) (Dv.cons Dv1.non Dv.nil))))) Dv.nil)
      | false =>
        have hfin : fs = [] → s0 = rs.length := fun h0 => hcan2 (hb2 rfl h0) h0
        clear hcan hcan2 hb1 hb2
        walk_at "go"
        refine Stop.mk ⟨fun b' H' => Stop ((b' = true → ∃ e fs', fs = e :: fs' ∧ e.dn = true) ∧ (b' = false → 100 ≤ i → fs = [] ∨ ∃ e fs', fs = e :: fs' ∧ e.dn = false) ∧ ∃ P', Ps P6 P' ∧ Own K H' ((D, .raw (.lst ((wtF fs).map V.int))) :: (pt pa ++ (qu T.C_Queues p1 p2 l s (1 + d1) (1 + d2) (lsOf fs) (ssOf fs) ++ ((m, .raw (.lst ((memK rs s0).map V.int))) :: (rw, .raw (.lst vr)) :: (fl, .raw (.lst vf)) :: (gt, .raw (.lst ((gotK rs s0).map oV))) :: (due, .raw (.lst (((List.range rs.length).map fun k => dueK rs k).map oV))) :: (last, .raw (.lst ((memK rs rs.length).map V.int))) :: R)))) P'), ?_, fun b' H' hM => ?_⟩
        · have S1 := sh_fl fs
          have S2 := sh_nil
          have S3 := sh_ints (wtF fs)
          replace hO := hO.dv (Dv.of mvf)
          cases fs with
          | nil =>
            walk_at "go"
            exact ⟨⟨fun h => absurd h (by decide), fun _ _ => .inl rfl, P6, Ps.refl, by walk_at "fin"⟩⟩
          | cons e fs' =>
            have hv0 : vf[0]? = some (vf[0]'(by simp at hvf; omega)) := List.getElem?_eq_getElem _
            generalize vf[0]'(by simp at hvf; omega) = u at hv0
            obtain ⟨t, rfl, hO⟩ := opnF hO (r := e) (Dv.get (vs := vf) (ds := (e :: fs').map fD) (Dv.of List.mem_cons_self) hv0 rfl)
            have ad : atI vf (0 : Int) = some (.ref t) := atI_nat (j := 0) hv0
            replace hO := hO.dv (Dv.of (List.mem_cons_of_mem _ (List.mem_cons_of_mem _ mvf)) : Dv K (_ :: _) vf ((e :: fs').map fD))
            cases hd : e.dn with
            | false =>
              rw [hd] at hO
              walk_at "go"
              exact ⟨⟨fun h => absurd h (by decide), fun _ _ => .inr ⟨e, fs', rfl, hd⟩, P6, Ps.refl, by walk_at "fin"⟩⟩
            | true =>
              rw [hd] at hO
              walk_at "go"
              refine iteD (fun h => ?_) (fun h => ?_)
              · exact ⟨⟨fun _ => ⟨e, fs', rfl, hd⟩, fun h => absurd h (by decide), P6, Ps.refl, by walk_at "fin"⟩⟩
              · have hw3 : way ≠ 3 := fun z => h (congrArg V.int z)
                walk_at "go"
                exact ⟨⟨fun _ => ⟨e, fs', rfl, hd⟩, fun _ hi => absurd (hway hi) hw3, P6, Ps.refl, by walk_at "fin"⟩⟩
        clear hO
        obtain ⟨hb1, hb2, P7, sp7, hO⟩ := hM.h
        clear hM
        replace mvf := sp7 _ mvf
        replace mvr := sp7 _ mvr
        clear sp7
        cases b' with
        | true =>
          obtain ⟨e, fs', rfl, hed⟩ := hb1 rfl
          clear hb1 hb2 hfin
          obtain ⟨hsp, hrow, hgt, hF2⟩ := hF.leave ok hed
          have hlt := hF.lt_of (A := [])
          have hpl := hF.pls ok (e := e) List.mem_cons_self
          have hnu := (hF.lo e List.mem_cons_self).1
          rw [← memK_succ hrow] at hF2
          have hv0 : vf[0]? = some (vf[0]'(by simp at hvf; omega)) := List.getElem?_eq_getElem _
          generalize vf[0]'(by simp at hvf; omega) = u at hv0
          obtain ⟨t, rfl, hO⟩ := opnF hO (r := e) (Dv.get (vs := vf) (ds := (e :: fs').map fD) (Dv.of mvf) hv0 rfl)
          have ad : atI vf (0 : Int) = some (.ref t) := atI_nat (j := 0) hv0
          have hslt : e.sp < rs.length := by rw [hsp]; exact (List.getElem?_eq_some_iff.mp hrow).1
          have hvw : vr[e.sp]? = some (vr[e.sp]'(by omega)) := List.getElem?_eq_getElem _
          generalize vr[e.sp]'(by omega) = u2 at hvw
          obtain ⟨t2, rfl, hO⟩ := opnW hO (r := (e.st, e.pl, e.wd)) (Dv.get (vs := vr) (ds := rs.map rwD) (Dv.of (List.mem_cons_of_mem _ mvr)) hvw (by rw [List.getElem?_map, hsp, hrow]; rfl))
          have ad2 := atI_nat hvw
          dsimp only at hO
          have hix : ixN ((memK rs s0).map V.int).length e.pl = some e.pl.toNat := by
            obtain ⟨j, hj⟩ := Int.eq_ofNat_of_zero_le hpl.1
            rw [hj, Int.toNat_natCast]
            exact ixR (by rw [List.length_map, memK_len]; omega)
          have hixg : ixN ((gotK rs s0).map oV).length (e.sp : Int) = some e.sp := ixR (by rw [List.length_map, gotK, List.length_map, List.length_range]; exact hslt)
          have hin : e.nu ∈ qkeys (lsOf (e :: fs')) ++ qkeys (ssOf (e :: fs')) := by
            rw [qk_ls, qk_ss]
            cases hs : e.st with
            | true => exact List.mem_append_right _ (List.mem_map.mpr ⟨e, List.mem_filter.mpr ⟨List.mem_cons_self, hs⟩, rfl⟩)
            | false => exact List.mem_append_left _ (List.mem_map.mpr ⟨e, List.mem_filter.mpr ⟨List.mem_cons_self, by rw [hs]; rfl⟩, rfl⟩)
          have hmin : ∀ z ∈ qkeys (lsOf (e :: fs')) ++ qkeys (ssOf (e :: fs')), e.nu ≤ z := fun z hz => by
            obtain ⟨x, hx, rfl⟩ := qk_mem hz
            rcases List.mem_cons.mp hx with rfl | hx
            · exact Int.le_refl _
            · have := hlt.2.1 x hx; omega
          have hdj : e.nu ∈ qkeys (lsOf (e :: fs')) → e.nu ∉ qkeys (ssOf (e :: fs')) := fun h1 h2 => by
            rw [qk_ls] at h1
            rw [qk_ss] at h2
            obtain ⟨x, hx, ex⟩ := List.mem_map.mp h1
            obtain ⟨y, hy, ey⟩ := List.mem_map.mp h2
            have one : ∀ z ∈ e :: fs', z.nu = e.nu → z = e := fun z hz ez => by
              rcases List.mem_cons.mp hz with rfl | hz
              · rfl
              · have := hlt.2.1 z hz; omega
            have x1 := one x (List.mem_filter.mp hx).1 ex
            have y1 := one y (List.mem_filter.mp hy).1 ey
            have x2 := (List.mem_filter.mp hx).2
            have y2 := (List.mem_filter.mp hy).2
            rw [x1] at x2
            rw [y1] at y2
            rw [y2] at x2
            exact absurd x2 (by decide)
          have hl100 : (lsOf (e :: fs')).length ≤ 100 := by omega
          have hs100 : (ssOf (e :: fs')).length ≤ 100 := by omega
          have elf : (lsOf (e :: fs')).filter (fun r => decide (r.1 ≠ e.nu)) = lsOf fs' := by rw [ls_filt (e :: fs') (fun z => decide (z ≠ e.nu)), filt_first hlt.2.1]
          have esf : (ssOf (e :: fs')).filter (fun r => decide (r.1 ≠ e.nu)) = ssOf fs' := by rw [ss_filt (e :: fs') (fun z => decide (z ≠ e.nu)), filt_first hlt.2.1]
          have egt : ((gotK rs s0).map oV).set e.sp (oV e.gt) = (gotK rs (s0 + 1)).map oV := by rw [hsp, hgt, ← List.map_set, gotK_set]
          have hmu2 := mu_step (s1 := s0 + 1) (fs' := fs') hmu hn9 (fun hi => by
            left
            simp only [mu, hed, if_true]
            simp only [List.length_cons] at hle
            split <;> omega)
          have ecut : cutV vf (some (1 : Int)) none = vf.drop 1 := cut_from vf 1
          cases hst : e.st with
          | true =>
            have hmm : ((memK rs s0).map V.int).set e.pl.toNat (.int e.wd) = (memK rs (s0 + 1)).map V.int := by rw [memK_succ hrow, putM, hst, if_pos rfl, List.map_set]
            rw [hst] at hO
            walk_at "go"
            intro H8 P8 sp8 hO
            rw [elf, esf, hmm, egt] at hO
            walk_at "go"
            rw [ecut] at hO
            refine ⟨⟨m, _, gt, l, s, _, _, _, _, _, _, _, _, _, _, _, fs', s0 + 1, nx, _, P8, rfl, by simp only [List.length_cons]; omega, hF2, hmu2, ?_⟩⟩
            walk_at "fin"
            · exact Dv.of (sp8 _ (List.mem_cons_of_mem _ (List.mem_cons_of_mem _ mvr)))
            exact Dv.drop 1 (Dv.of (sp8 _ (List.mem_cons_of_mem _ (List.mem_cons_of_mem _ mvf))))
          | false =>
            have hmm : (memK rs s0).map V.int = (memK rs (s0 + 1)).map V.int := by rw [memK_succ hrow, putM, hst]; rfl
            rw [hst] at hO
            walk_at "go"
            intro H8 P8 sp8 hO
            rw [elf, esf, hmm, egt] at hO
            walk_at "go"
            rw [ecut] at hO
            refine ⟨⟨m, _, gt, l, s, _, _, _, _, _, _, _, _, _, _, _, fs', s0 + 1, nx, _, P8, rfl, by simp only [List.length_cons]; omega, hF2, hmu2, ?_⟩⟩
            walk_at "fin"
            · exact Dv.of (sp8 _ (List.mem_cons_of_mem _ (List.mem_cons_of_mem _ mvr)))
            exact Dv.drop 1 (Dv.of (sp8 _ (List.mem_cons_of_mem _ (List.mem_cons_of_mem _ mvf))))
        | false =>
          have hb3 := hb2 rfl
          clear hb1 hb2
          walk_at "go"
          refine Stop.mk ⟨fun b' H' => Stop ((b' = true → wtF fs ≠ []) ∧ (b' = false → wtF fs = []) ∧ ∃ P', Ps P7 P' ∧ Own K H' ((D, .raw (.lst ((wtF fs).map V.int))) :: (pt pa ++ (qu T.C_Queues p1 p2 l s (1 + d1) (1 + d2) (lsOf fs) (ssOf fs) ++ ((m, .raw (.lst ((memK rs s0).map V.int))) :: (rw, .raw (.lst vr)) :: (fl, .raw (.lst vf)) :: (gt, .raw (.lst ((gotK rs s0).map oV))) :: (due, .raw (.lst (((List.range rs.length).map fun k => dueK rs k).map oV))) :: (last, .raw (.lst ((memK rs rs.length).map V.int))) :: R)))) P'), ?_, fun b' H' hM => ?_⟩
          · have S1 := sh_ints (wtF fs)
            have S2 := sh_nil
            walk_at "go"
            rw [eqv_nil]
            refine ⟨⟨fun h h0 => ?_, fun h => by simpa using h, P7, Ps.refl, by walk_at "fin"⟩⟩
            rw [h0] at h
            exact absurd h (by decide)
          clear hO
          obtain ⟨hc1, hc2, P8, sp8, hO⟩ := hM.h
          clear hM
          replace mvf := sp8 _ mvf
          replace mvr := sp8 _ mvr
          clear sp8
          have hwl := wtF_len fs
          cases b' with
          | true =>
            have hne := hc1 rfl
            clear hc1 hc2
            have hw0 : 0 < ((wtF fs).map V.int).length := by rw [List.length_map]; exact List.length_pos_iff.mpr hne
            walk_at "go"
            refine Stop.mk ⟨fun v H' => Stop (∃ (A B : List FE) (e : FE), fs = A ++ e :: B ∧ e.dn = false ∧ v = .int (A.length : Int) ∧ (100 ≤ i → A = []) ∧ Own K H' ((D, .raw (.lst ((wtF fs).map V.int))) :: (pt pa ++ (qu T.C_Queues p1 p2 l s (1 + d1) (1 + d2) (lsOf fs) (ssOf fs) ++ ((m, .raw (.lst ((memK rs s0).map V.int))) :: (rw, .raw (.lst vr)) :: (fl, .raw (.lst vf)) :: (gt, .raw (.lst ((gotK rs s0).map oV))) :: (due, .raw (.lst (((List.range rs.length).map fun k => dueK rs k).map oV))) :: (last, .raw (.lst ((memK rs rs.length).map V.int))) :: R)))) P8), ?_, fun v H' hM => ?_⟩
            · walk_at "go"
              refine iteD (fun h => ?_) (fun h => ?_)
              · walk_at "go"
                intro dd H6 q0 q1 hO
                have hlen : 0 < (((wtF fs).map V.int).length : Int) := by omega
                have hm0 := Int.emod_nonneg dd (Int.ne_of_gt hlen)
                have hm1 := Int.emod_lt_of_pos dd hlen
                obtain ⟨jj, hjj⟩ := Int.eq_ofNat_of_zero_le hm0
                have hj2 : jj < ((wtF fs).map V.int).length := by omega
                have hj3 : jj < (wtF fs).length := by rw [List.length_map] at hj2; exact hj2
                obtain ⟨A, B, e, e1, e2, e3⟩ := wtF_mem (List.getElem_mem hj3)
                have adw : atI ((wtF fs).map V.int) (dd % (((wtF fs).map V.int).length : Int)) = some (V.int (A.length : Int)) := by
                  rw [hjj]
                  exact atI_nat (by rw [List.getElem?_map, List.getElem?_eq_getElem hj3, e3]; rfl)
                walk_at "go"
                exact ⟨⟨A, B, e, e1, e2, rfl, fun hi => by omega, by walk_at "fin"⟩⟩
              · have hi : 100 ≤ i := by omega
                rcases hb3 hi with rfl | ⟨e, fs', rfl, hd⟩
                · exact absurd rfl hne
                · have hw1 := wtF_first (fs := fs') hd
                  have adw : atI ((wtF (e :: fs')).map V.int) (0 : Int) = some (V.int 0) := atI_nat (j := 0) (by rw [List.getElem?_map, hw1]; rfl)
                  walk_at "go"
                  exact ⟨⟨[], fs', e, rfl, hd, rfl, fun _ => rfl, by walk_at "fin"⟩⟩
            clear hO
            obtain ⟨A, B, e, rfl, hed, rfl, hA, hO⟩ := hM.h
            clear hM
            replace hO := hO.dv (Dv.of mvf)
            replace hO := hO.dv (Dv.of (List.mem_cons_of_mem _ mvr))
            walk_at "go"
            intro g o H9 P9 sp9 hg hv hO
            cases hfind : (if e.st = true then (B.find? (hitF e.nu e.pl)).map (fun f => f.nu) else none) with
            | none =>
              have hno : e.st = true → ∀ b ∈ B, hitF e.nu e.pl b = false := fun hs b hb => by
                rw [if_pos hs, Option.map_eq_none_iff, List.find?_eq_none] at hfind
                simpa using hfind b hb
              have hF2 := Fl.done (B := B) (C := []) (by rw [List.append_nil]; exact hF) hed hg (by rw [List.append_nil]; exact hv) hno
              have hmu2 := mu_step (s1 := s0) (fs' := A ++ { e with dn := true, gt := g, sr := o } :: B) hmu hn9 (fun hi => by
                have h0 := hA hi
                subst h0
                left
                simp only [List.nil_append, List.length_cons] at hle
                simp [mu, hed]
                omega)
              walk_at "go"
              refine ⟨⟨m, fl, gt, l, s, _, _, _, _, _, _, _, _, _, _, _, A ++ { e with dn := true, gt := g, sr := o } :: B, s0, nx, _, P9, rfl, by simp, hF2, hmu2, ?_⟩⟩
              walk_at "fin"
            | some z =>
              have hs : e.st = true := by
                cases q : e.st with
                | true => rfl
                | false => rw [q] at hfind; simp at hfind
              rw [if_pos hs] at hfind
              obtain ⟨f, hf, rfl⟩ := Option.map_eq_some_iff.mp hfind
              obtain ⟨hf1, B1, B2, rfl, hf2⟩ := List.find?_eq_some_iff_append.mp hf
              have hF2 := Fl.done (B := B1) (C := f :: B2) hF hed hg hv (fun _ b hb => by simpa using hf2 b hb)
              have hF3 : Fl rs (memK rs s0) s0 ((A ++ e :: B1) ++ f :: B2) nx := by simpa using hF
              have hfn0 : 0 ≤ f.nu := (hF.lo f (by simp)).1
              have hfsp := sp_get hF3 (i := (A ++ e :: B1).length) (e := f) (by rw [List.getElem?_append_right (Nat.le_refl _), Nat.sub_self]; rfl)
              obtain ⟨q1, q2, q3⟩ := hF3.lt_of
              have hmu2 := mu_step (s1 := s0) (fs' := A ++ { e with dn := true, gt := g, sr := o } :: B1) hmu hn9 (fun hi => by
                have h0 := hA hi
                subst h0
                left
                simp only [List.nil_append, List.length_cons] at hle
                simp [mu, hed]
                omega)
              have hasc : ((A ++ { e with dn := true, gt := g, sr := o } :: (B1 ++ f :: B2)).map fun x => x.nu).Pairwise (· < ·) := by
                have := hF.asc
                rw [List.map_append, List.map_cons] at this ⊢
                exact this
              have q1' : ∀ a ∈ A ++ { e with dn := true, gt := g, sr := o } :: B1, a.nu < f.nu := fun a ha => by
                rcases List.mem_append.mp ha with ha | ha
                · exact q1 a (by simp [ha])
                · rcases List.mem_cons.mp ha with rfl | ha
                  · exact q1 e (by simp)
                  · exact q1 a (by simp [ha])
              have efs : A ++ { e with dn := true, gt := g, sr := o } :: (B1 ++ f :: B2) = (A ++ { e with dn := true, gt := g, sr := o } :: B1) ++ f :: B2 := by simp
              have hlen9 : (A ++ { e with dn := true, gt := g, sr := o } :: (B1 ++ f :: B2)).length ≤ 9 := by
                simp only [List.length_append, List.length_cons] at hfs9 ⊢
                exact hfs9
              have hupn : (f.sp : Int) = ((s0 + (A ++ { e with dn := true, gt := g, sr := o } :: B1).length : Nat) : Int) := by
                rw [hfsp]
                simp only [List.length_append, List.length_cons]
              clear hf hfind hf2 hF hF3 hv hmu hb3 hA hne hw0 hwl q3 hfin
              generalize ({ e with dn := true, gt := g, sr := o } : FE) = e2 at hO hF2 hmu2 hasc q1' efs hlen9 hupn
              have hkl := asc_nodup (show (qkeys (lsOf (A ++ e2 :: (B1 ++ f :: B2)))).Pairwise (· < ·) by rw [qk_ls]; exact hasc.sublist (List.filter_sublist.map _))
              have hks := asc_nodup (show (qkeys (ssOf (A ++ e2 :: (B1 ++ f :: B2)))).Pairwise (· < ·) by rw [qk_ss]; exact hasc.sublist (List.filter_sublist.map _))
              rw [efs] at hO hkl hks hlen9
              clear efs hasc
              generalize hZ : A ++ e2 :: B1 = Z at hO hkl hks hlen9 hF2 hmu2 q1' hupn
              have c1 := filt_one q1' q2
              have c2 := filt_cut q1' q2
              have k1 := ls_len (Z ++ f :: B2)
              have k2 := ss_len (Z ++ f :: B2)
              have hl100 : (lsOf (Z ++ f :: B2)).length ≤ 100 := by omega
              have hs100 : (ssOf (Z ++ f :: B2)).length ≤ 100 := by omega
              have elf := ls_filt (Z ++ f :: B2) (fun z => decide (z < f.nu))
              have esf := ss_filt (Z ++ f :: B2) (fun z => decide (z < f.nu))
              rw [c2] at elf esf
              generalize hY : Z ++ f :: B2 = Y at hO hkl hks hlen9 hl100 hs100 c1 c2 k1 k2 elf esf
              clear hZ hY
              obtain ⟨vg, o1⟩ := hO.openL (a := fl) (by walk_at "mem")
              replace hO := o1 _ (by walk_at "setat")
              clear o1
              have hvg := (hO.pdp List.mem_cons_self).len
              rw [List.length_map] at hvg
              walk_at "go"
              refine iteD (fun h => by exfalso; first | (have := V.int.inj h; omega) | (have h' : f.nu = -1 := h; omega)) (fun _ => ?_)
              walk_at "go"
              intro E1 hE1
              refine lc_siftW Y (fun x => V.int (x.sp : Int)) (fun x => decide (x.nu = f.nu)) (by rw [← hvg]; exact walk_list (xs := vg)) hO hE1 (by omega) (fun H L' P' m t h => SqL.of (h.raw (m _ (by walk_at "mem")))) (fun j x v H9 H' P' ys Qn Qy hr hY sp hO kn ky => ?_) (fun H10 P10 sp10 hO => ?_)
              · obtain ⟨rfl, hx⟩ := hY
                obtain ⟨t, rfl, hO⟩ := opnF hO (r := x) (Dv.get (vs := vg) (ds := Y.map fD) (Dv.of (sp _ List.mem_cons_self)) hx (by rw [List.getElem?_map, hr]; rfl))
                walk_at "go"
                refine iteD (fun h => ?_) (fun h => ?_)
                · walk_at "go"
                  exact ky (decide_eq_true (V.int.inj h)) _ _ (Ps.skip Ps.refl) hO
                · exact kn (decide_eq_false (fun z => h (congrArg V.int z))) _ _ (Ps.skip Ps.refl) hO
              rw [c1] at hO
              have adx : atI [V.int (f.sp : Int)] (0 : Int) = some (V.int (f.sp : Int)) := atI_nat (xs := [V.int (f.sp : Int)]) (j := 0) rfl
              walk_at "go"
              intro l2 s2 H11 P11 sp11 hO
              rw [elf, esf] at hO
              walk_at "go"
              intro E3 hE3
              refine lc_siftD Y fD (fun x => decide (x.nu < f.nu)) (by rw [← hvg]; exact walk_list (xs := vg)) hO hE3 (by omega) (fun H L' P' m t h => SqL.of (h.raw (m _ (by walk_at "mem")))) (fun j x v H9 H' P' ds2 Qn Qy hr hY sp hO kn ky => ?_) (fun H12 P12 sp12 hO => ?_)
              · obtain ⟨rfl, hx⟩ := hY
                have dvr : Dv1 K P' v (fD x) := Dv.get (vs := vg) (ds := Y.map fD) (Dv.of (sp _ (sp11 _ (sp10 _ List.mem_cons_self)))) hx (by rw [List.getElem?_map, hr]; rfl)
                obtain ⟨t, rfl, hO⟩ := opnF hO dvr
                walk_at "go"
                refine iteD (fun h => ?_) (fun h => ?_)
                · walk_at "go"
                  exact ky (decide_eq_true h) _ _ _ (Ps.skip Ps.refl) hO (dvr.mono (Ps.skip Ps.refl))
                · first | exact kn (decide_eq_false h) _ _ (Ps.skip Ps.refl) hO | (walk_at "go"; exact kn (decide_eq_false h) _ _ (Ps.skip Ps.refl) hO)
              rw [c2] at hO
              walk_at "go"
              refine ⟨⟨m, E3, gt, l2, s2, _, _, _, _, _, _, _, _, _, _, _, Z, s0, nx, _, P12, rfl, hupn, hF2, hmu2, ?_⟩⟩
              walk_at "fin"
          | false =>
            have h0 := hc2 rfl
            have hmu2 := mu_step (s1 := s0) (fs' := fs) hmu hn9 (fun hi => by
              rcases hb3 hi with rfl | ⟨e, fs', rfl, hd⟩
              · right
                have := hfin rfl
                simp [mu]; omega
              · have := wtF_nil h0 e List.mem_cons_self
                rw [hd] at this
                exact absurd this (by decide))
            walk_at "go"
            refine ⟨⟨m, fl, gt, l, s, _, _, _, _, _, _, _, _, _, _, _, fs, s0, nx, _, P8, rfl, rfl, hF, hmu2, ?_⟩⟩
            walk_at "fin"
            · exact Dv.of mvr
            · exact Dv.of mvf
    · clear hO er
      obtain ⟨m, fl, gt, l, s, t10, t11, t12, t13, t14, t15, t16, t17, t18, t19, t20, fs, s0, nx, up, P', rfl, rfl, hF, hmu, hO⟩ := h.h
      clear h
      have hz : mu rs.length s0 fs = 0 := by
        have e160 : ((160 : Int)).toNat = 160 := rfl
        omega
      obtain ⟨hs0, rfl⟩ := mu_zero hz hF.le
      subst hs0
      rw [gotK_all] at hO
      obtain ⟨vq, o1⟩ := hO.openL (a := rw) (by walk_at "mem")
      replace hO := o1 _ (by walk_at "setat")
      clear o1
      have hvq := (hO.pdp List.mem_cons_self).len
      rw [List.length_map] at hvq
      obtain ⟨vf, o1⟩ := hO.openL (a := fl) (by walk_at "mem")
      replace hO := o1 _ (by walk_at "setat")
      clear o1
      have hvf := (hO.pdp List.mem_cons_self).len
      obtain rfl : vf = [] := List.eq_nil_of_length_eq_zero hvf
      generalize (List.range rs.length).map (fun k => dueK rs k) = ds at hO
      have S1 := sh_oDs ds
      have S2 := sh_ints (memK rs rs.length)
      have S3 := sh_nil
      replace hO := hO.dv (dv_oVs ds)
      walk_at "go"
      refine qbl (k _) (decide_eq_true ?_)
      rw [hvq]
      rfl
end
end K77

set_option Elab.async false
set_option linter.all false
set_option maxRecDepth 100000
set_option maxHeartbeats 8000000

namespace K77
open PySem PySem.Spec PyProof.Rows L2 Hx 
local macro_rules | `(tactic| walk_at "sm") => `(tactic| repeat' (first | assumption | apply Hx.Same.upd | exact L2.Same.refl _ | apply same_trans'))
local macro_rules | `(tactic| walk_at "hp") => `(tactic| repeat' (first | assumption | exact upd_same | apply old_upd | apply same_at))
local macro_rules | `(tactic| walk_at "rd") => `(tactic| repeat' (first | rfl | apply Exists.intro | apply And.intro | refine iteT ?_ | refine iteF ?_ | exact upd_same | exact SqL.of (by assumption) | exact SqL.of upd_same | exact SqT.of upd_same | exact SqT.of (by assumption) | ((with_reducible show (_ : Int) < _); omega) | ((with_reducible show (_ : Int) ≤ _); omega) | (show (_ : Prop); assumption) | exact Or.inl ⟨_, by assumption, rfl⟩ | exact Or.inl ⟨rfl, _, SqL.of (by assumption)⟩ | exact Or.inl ⟨rfl, _, SqL.of upd_same⟩ | apply old_upd | apply Hx.SqL.new | apply tyl_new | apply Pot.new | exact same_at (by assumption) (by assumption) | exact Or.inl (SqL.of (by assumption)) | exact Or.inl (by assumption) | exact Or.inl (SqL.of upd_same) | exact size_le (Nat.le_of_ble_eq_true rfl) | exact Nat.le_of_ble_eq_true rfl | exact True.intro | exact Or.inl rfl | exact Or.inr rfl | (show (_ : Prop); omega) | (show (_ : Prop); dsimp only; omega) | exact mulw64 (by omega) (by omega) | exact mulw64 (by (try dsimp only); omega) (by (try dsimp only); omega)))
set_option hygiene false in
local macro_rules | `(tactic| walk_at "fl") => `(tactic| simp only [pu_Queues_load_rooms, pi_Queues_load_rooms, pu_Queues_store_rooms, pi_Queues_store_rooms, pu_Queues_loads, pi_Queues_loads, pu_Queues_stores, pi_Queues_stores] at hO)
local macro_rules | `(tactic| walk_at "mem") => `(tactic| ((repeat (first | exact List.Mem.head _ | apply List.Mem.tail | fail)); done))
local macro_rules | `(tactic| walk_at "setat") => `(tactic| ((repeat (first | (with_reducible exact At.head) | (with_reducible apply At.tail) | (with_reducible apply At.app) | fail)); done))
set_option hygiene false in
local macro_rules | `(tactic| walk_at "dv") => `(tactic| ((repeat' (first | exact Dv.nil | exact Dv.of (by walk_at "mem") | exact Dv.ints _ | exact Dv1.of (by walk_at "mem") | exact Dv1.int _ | exact Dv1.non | exact Dv1.bl _ | exact Dv1.str _ | (with_reducible apply Dv.cons) | refine Dv1.tup (by walk_at "mem") ?_ | refine Dv1.lst (by walk_at "mem") ?_ | (with_reducible apply Dv.app) | fail)); done))
local macro_rules | `(tactic| walk_at "ft") => `(tactic| (first | (with_reducible exact Ft.refl) | ((with_reducible apply Ft.toL); focus walk_at "dv") | ((with_reducible apply Ft.toS); focus assumption) | (with_reducible apply Ft.lst) | (with_reducible apply Ft.Le) | (with_reducible apply Ft.dK) | (with_reducible apply Ft.De) | (with_reducible apply Ft.ins) | (with_reducible apply Ft.toL) | (with_reducible apply Ft.toS) | (with_reducible apply Ft.toD) | fail))
local macro_rules | `(tactic| walk_at "sbL") => `(tactic| repeat' (first | (with_reducible exact Sb.refl _) | exact Sb.nil | (with_reducible apply Sb.cons) | (with_reducible apply Sb.app) | (with_reducible exact Pk.one) | (with_reducible exact Pk.here) | (with_reducible exact Pk.all) | (with_reducible apply Pk.skip1) | (with_reducible apply Pk.skipB) | (with_reducible apply Sb.skip) | (with_reducible apply Sb.skipB) | ((with_reducible show Ft _ _ _ _); walk_at "ft") | ((with_reducible show (_ : List _) = _); (first | rfl | (simp [List.map_set, List.map_append]; done) | fail)) | fail))
local macro_rules | `(tactic| walk_at "sb") => `(tactic| ((walk_at "sbL"); done))
local macro_rules | `(tactic| walk_at "ps") => `(tactic| ((repeat' (first | (with_reducible exact Ps.refl) | exact Ps.nil | (with_reducible apply Ps.cons) | exact List.Mem.head _ | apply List.Mem.tail | (with_reducible apply Ps.skip) | fail)); done))
set_option hygiene false in
local macro_rules | `(tactic| walk_at "at") => `(tactic| first | assumption | exact Own.raw hO (by walk_at "mem") | exact Own.ptup hO (by walk_at "mem") | exact Own.plst hO (by walk_at "mem") | fail)
set_option hygiene false in
local macro_rules | `(tactic| walk_at "st") => `(tactic| (rw [upd_mkO hO]; generalize e : updX _ _ _ = H1; (first | ((apply Own.cset hO e); (focus walk_at "setat"); (try clear hO e); intro hO) | ((apply Own.cnewT hO e); (focus assumption); (try clear hO e); intro hO) | ((apply Own.cnew hO e); (focus assumption); (try clear hO e); intro hO) | fail)))
set_option hygiene false in
local macro_rules | `(tactic| walk_at "mk") => `(tactic| (intro p1 p2 f1 f2 f3; rw [upd_mkO hO]; generalize e : upd (updX _ _ _) _ _ = H1; apply Own.cmake hO f1 f2 f3 e; (try clear hO e); intro hO))
set_option hygiene false in
local macro_rules | `(tactic| walk_at "own") => `(tactic| (first | ((apply Own.sub hO); (focus walk_at "sb"); (focus walk_at "ps")) | ((apply Own.sub hF); (focus walk_at "sb"); (focus walk_at "ps")) | fail))
set_option hygiene false in
local macro_rules | `(tactic| walk_at "fin") => `(tactic| (refine Own.sub hO ?_ (by walk_at "ps"); walk_at "sbL"))
set_option hygiene false in
local macro_rules | `(tactic| walk_at "g1") => `(tactic| (first
 | ((with_reducible show (_ : Option HO) = _); walk_at "at")
 | ((with_reducible show (_ : Int) < _); omega) | ((with_reducible show (_ : Int) ≤ _); omega)
 | ((with_reducible show (_ : Nat) < _); (first | assumption | exact Nat.le_of_ble_eq_true rfl | exact size_lt (Nat.le_of_ble_eq_true rfl) | omega | (simp; done) | (simp; omega) | fail))
 | ((with_reducible show (_ : Nat) ≤ _); (first | assumption | exact Nat.le_of_ble_eq_true rfl | exact size_le (Nat.le_of_ble_eq_true rfl) | omega | (simp; done) | (simp; omega) | fail))
 | ((with_reducible show Own _ _ _ _); (first | walk_at "own" | (walk_at "st"; walk_at "own") | fail))
 | ((with_reducible show SqL _ _ _ _); (first | assumption | exact SqL.of (by walk_at "at") | fail))
 | ((with_reducible show SqT _ _ _ _); (first | assumption | exact hO.psq (by walk_at "mem") | exact SqT.of (by walk_at "at") | fail))
  | ((with_reducible show Cls _ _); exact Txt.cl_Queues T) | ((with_reducible show NoAttr _ _ _); exact Txt.n_Queues_load_rooms T) | (with_reducible exact gt_Queues_load_rooms) | ((with_reducible show NoAttr _ _ _); exact Txt.n_Queues_store_rooms T) | (with_reducible exact gt_Queues_store_rooms) | ((with_reducible show NoAttr _ _ _); exact Txt.n_Queues_loads T) | (with_reducible exact gt_Queues_loads) | ((with_reducible show NoAttr _ _ _); exact Txt.n_Queues_stores T) | (with_reducible exact gt_Queues_stores)  | ((with_reducible show V.ref _ = V.ref _); (first | rfl | fail))
 | ((with_reducible show DGet _ _ _ _); (first | exact DGet.ki (by walk_at "at") (by assumption) | exact DGet.kiF (by walk_at "at") (by assumption) | fail))
 | ((with_reducible show DPut _ _ _ _ _); exact DPut.ki (by walk_at "at") (by assumption))
 | ((with_reducible show Rd _ _ _); (first | exact Or.inl (by walk_at "at") | exact Or.inr ⟨_, by walk_at "at"⟩ | fail))
 | ((with_reducible show (∃ _ : List (Key × V), _) ∨ _); refine Or.inl ⟨_, by walk_at "at", ?_⟩)
 | ((with_reducible show Dv _ _ _ _); focus walk_at "dv") | ((with_reducible show Dv1 _ _ _ _); focus walk_at "dv")
 | ((with_reducible show IsD _ _); exact Or.inl ⟨_, Or.inl (by walk_at "at")⟩)
 | ((with_reducible show V.int _ = kV _); exact kV_int)
 | ((with_reducible show Option.isSome _ = true); (first | exact isSome_ofV (by assumption) | assumption | fail))
 | ((with_reducible show SqL _ _ _ _ ∨ SqT _ _ _ _); (first | exact Or.inl (by assumption) | exact Or.inr (by assumption) | exact Or.inl (SqL.of (by walk_at "at")) | exact Or.inr (SqT.of (by walk_at "at")) | fail))
 | ((with_reducible show Dp _ _ _ _); (first | assumption | exact hO.dpL (by walk_at "mem") | exact .lst (SqL.of (by walk_at "at")) (hO.all (by walk_at "dv")) | exact hO.one (by walk_at "dv") | fail))
 | ((with_reducible show TruV _ _ _ _); (first | exact Or.inl ⟨_, SqL.of (by walk_at "at"), rfl⟩ | exact Or.inr (Or.inr ⟨_, by walk_at "at", rfl⟩) | exact Or.inr (Or.inl ⟨_, SqT.of (by walk_at "at"), rfl⟩) | fail))
 | ((with_reducible show RgOk _ _); exact RgOk.of_le (by omega) (by omega) (by omega) (by omega))
 | rfl | (with_reducible assumption) | apply And.intro | apply Exists.intro | refine iteT ?_ | refine iteF ?_
 | (walk_at "st"; (try walk_at "fl"))
 | ((with_reducible show ∀ _ : Addr, _ = none → _); (fail_if_success (with_reducible show ∀ _ : Addr, _ = none → ∃ _ : Nat → Nat → Hp → Prop, _)); intro p fp; walk_at "st")
 | (refine Or.inl ⟨SqL.of (by walk_at "at"), ?_⟩) | (refine Or.inr ⟨SqT.of (by walk_at "at"), ?_⟩) | exact Or.inl ⟨_, by walk_at "at", rfl⟩ | exact Or.inl ⟨rfl, _, SqL.of (by walk_at "at")⟩ | exact tyl_of (by walk_at "at") | exact Or.inl (SqL.of (by walk_at "at")) | exact Or.inr (SqT.of (by walk_at "at")) | exact Or.inl (by walk_at "at") | exact size_le (Nat.le_of_ble_eq_true rfl) | exact Nat.le_of_ble_eq_true rfl | exact True.intro | exact Or.inl rfl | exact Or.inr rfl | (show (_ : Prop); assumption) | (show (_ : Prop); omega) | (show (_ : Prop); dsimp only; omega) | exact mulw64 (by omega) (by omega) | exact mulw64 (by (try dsimp only); omega) (by (try dsimp only); omega) | fail))
local macro_rules | `(tactic| walk_at "go") => `(tactic| repeat walk_at "g1")

section
variable {P : Program} {w : World} {K : PySem.W.Frag} {mg : Str → Option Value} {base : Heap}
def sp_law (K : PySem.W.Frag) : Sp := fun vs H Q _ => ∃ (a : Addr) (ns : List Int), vs = [.ref a] ∧ SqL K H a (ns.map V.int) ∧ ns.length ≤ 63 ∧ ∀ H', Q (.bl true) H'
theorem ok_law (T : Txt K mg) : FnOk P w K mg base CX0 8 T.f_law T.fd_law ["_law_script"] (sp_law K) := by
  have G_Lright := ok_Lright (P := P) (w := w) (base := base) T
  have G_Lpot := ok_Lpot (P := P) (w := w) (base := base) T
  refine T.F_law.ok sc_law (fun vs H Q E h => ?_) (fun cdv A outer s H vs Q E hr h => ?_)
  · obtain ⟨a, ns, rfl, hS, hl, k⟩ := h; rfl
  · obtain ⟨a, ns, rfl, hS, hl, k⟩ := h
    refine ⟨_, (pss_one (ps_ret (pe_call G_Lright (hr.mono (by decide)) rfl T.g_Lright T.F_Lright.kp T.b_Lright .nil pass0 (pa_cons (pe_call G_Lpot (hr.mono (by decide)) rfl T.g_Lpot T.F_Lpot.kp T.b_Lpot .nil pass0 (pa_cons (pv 0) (pa_cons pe_int pa_nil))) pa_nil)))), ?_⟩
    clear G_Lright G_Lpot
    clear hr
    walk_at "rd"
    intro p H' hO
    walk_at "go"
end
end K77

set_option Elab.async false
set_option linter.all false
set_option maxRecDepth 100000
set_option maxHeartbeats 8000000

namespace K77
open PySem PySem.Spec PyProof.Rows L2 Hx
theorem all_mk {l : PySem.W.OpenLaw} {w : World} {K : PySem.W.Frag} {h : Heap} {mg : Str → Option Value} {fa : Addr} (X : K.In h) (G : h.Ns mainGlobals mg) (hfa : mg "law" = some (.ref fa))
    {C_Queues : Addr}
    {f_is_integer : Addr} {od_is_integer an_is_integer : Option Addr} {sl_is_integer : Array (Option Value)} {oc_is_integer kV_is_integer dc_is_integer pm_is_integer cd_is_integer ct_is_integer : Value}
    {f_is_count : Addr} {od_is_count an_is_count : Option Addr} {sl_is_count : Array (Option Value)} {oc_is_count kV_is_count dc_is_count pm_is_count cd_is_count ct_is_count : Value}
    {f_is_between : Addr} {od_is_between an_is_between : Option Addr} {sl_is_between : Array (Option Value)} {oc_is_between kV_is_between dc_is_between pm_is_between cd_is_between ct_is_between : Value}
    {f_need_many : Addr} {od_need_many an_need_many : Option Addr} {sl_need_many : Array (Option Value)} {oc_need_many kV_need_many dc_need_many pm_need_many cd_need_many ct_need_many : Value}
    {f_need_number : Addr} {od_need_number an_need_number : Option Addr} {sl_need_number : Array (Option Value)} {oc_need_number kV_need_number dc_need_number pm_need_number cd_need_number ct_need_number : Value}
    {f_is_word : Addr} {od_is_word an_is_word : Option Addr} {sl_is_word : Array (Option Value)} {oc_is_word kV_is_word dc_is_word pm_is_word cd_is_word ct_is_word : Value}
    {f_is_place : Addr} {od_is_place an_is_place : Option Addr} {sl_is_place : Array (Option Value)} {oc_is_place kV_is_place dc_is_place pm_is_place cd_is_place ct_is_place : Value}
    {f_need_word : Addr} {od_need_word an_need_word : Option Addr} {sl_need_word : Array (Option Value)} {oc_need_word kV_need_word dc_need_word pm_need_word cd_need_word ct_need_word : Value}
    {f_need_place : Addr} {od_need_place an_need_place : Option Addr} {sl_need_place : Array (Option Value)} {oc_need_place kV_need_place dc_need_place pm_need_place cd_need_place ct_need_place : Value}
    {f_Queues_init : Addr} {od_Queues_init an_Queues_init : Option Addr} {sl_Queues_init : Array (Option Value)} {oc_Queues_init kV_Queues_init dc_Queues_init pm_Queues_init cd_Queues_init ct_Queues_init : Value}
    {f_Queues_can_load : Addr} {od_Queues_can_load an_Queues_can_load : Option Addr} {sl_Queues_can_load : Array (Option Value)} {oc_Queues_can_load kV_Queues_can_load dc_Queues_can_load pm_Queues_can_load cd_Queues_can_load ct_Queues_can_load : Value}
    {pa_Queues_can_load : Addr} {pr_Queues_can_load : List Value}
    {f_Queues_can_store : Addr} {od_Queues_can_store an_Queues_can_store : Option Addr} {sl_Queues_can_store : Array (Option Value)} {oc_Queues_can_store kV_Queues_can_store dc_Queues_can_store pm_Queues_can_store cd_Queues_can_store ct_Queues_can_store : Value}
    {pa_Queues_can_store : Addr} {pr_Queues_can_store : List Value}
    {f_Queues_load_entered : Addr} {od_Queues_load_entered an_Queues_load_entered : Option Addr} {sl_Queues_load_entered : Array (Option Value)} {oc_Queues_load_entered kV_Queues_load_entered dc_Queues_load_entered pm_Queues_load_entered cd_Queues_load_entered ct_Queues_load_entered : Value}
    {f_Queues_store_entered : Addr} {od_Queues_store_entered an_Queues_store_entered : Option Addr} {sl_Queues_store_entered : Array (Option Value)} {oc_Queues_store_entered kV_Queues_store_entered dc_Queues_store_entered pm_Queues_store_entered cd_Queues_store_entered ct_Queues_store_entered : Value}
    {f_Queues_known : Addr} {od_Queues_known an_Queues_known : Option Addr} {sl_Queues_known : Array (Option Value)} {oc_Queues_known kV_Queues_known dc_Queues_known pm_Queues_known cd_Queues_known ct_Queues_known : Value}
    {f_Queues_source : Addr} {od_Queues_source an_Queues_source : Option Addr} {sl_Queues_source : Array (Option Value)} {oc_Queues_source kV_Queues_source dc_Queues_source pm_Queues_source cd_Queues_source ct_Queues_source : Value}
    {f_Queues_read : Addr} {od_Queues_read an_Queues_read : Option Addr} {sl_Queues_read : Array (Option Value)} {oc_Queues_read kV_Queues_read dc_Queues_read pm_Queues_read cd_Queues_read ct_Queues_read : Value}
    {f_Queues_leave : Addr} {od_Queues_leave an_Queues_leave : Option Addr} {sl_Queues_leave : Array (Option Value)} {oc_Queues_leave kV_Queues_leave dc_Queues_leave pm_Queues_leave cd_Queues_leave ct_Queues_leave : Value}
    {f_Queues_dropped : Addr} {od_Queues_dropped an_Queues_dropped : Option Addr} {sl_Queues_dropped : Array (Option Value)} {oc_Queues_dropped kV_Queues_dropped dc_Queues_dropped pm_Queues_dropped cd_Queues_dropped ct_Queues_dropped : Value}
    {f_Queues_loads : Addr} {od_Queues_loads an_Queues_loads : Option Addr} {sl_Queues_loads : Array (Option Value)} {oc_Queues_loads kV_Queues_loads dc_Queues_loads pm_Queues_loads cd_Queues_loads ct_Queues_loads : Value}
    {f_Queues_stores : Addr} {od_Queues_stores an_Queues_stores : Option Addr} {sl_Queues_stores : Array (Option Value)} {oc_Queues_stores kV_Queues_stores dc_Queues_stores pm_Queues_stores cd_Queues_stores ct_Queues_stores : Value}
    {f_Queuesall_numbers : Addr} {od_Queuesall_numbers an_Queuesall_numbers : Option Addr} {sl_Queuesall_numbers : Array (Option Value)} {oc_Queuesall_numbers kV_Queuesall_numbers dc_Queuesall_numbers pm_Queuesall_numbers cd_Queuesall_numbers ct_Queuesall_numbers : Value}
    {f_Queuesneed_above_all : Addr} {od_Queuesneed_above_all an_Queuesneed_above_all : Option Addr} {sl_Queuesneed_above_all : Array (Option Value)} {oc_Queuesneed_above_all kV_Queuesneed_above_all dc_Queuesneed_above_all pm_Queuesneed_above_all cd_Queuesneed_above_all ct_Queuesneed_above_all : Value}
    {f_Queuesis_source : Addr} {od_Queuesis_source an_Queuesis_source : Option Addr} {sl_Queuesis_source : Array (Option Value)} {oc_Queuesis_source kV_Queuesis_source dc_Queuesis_source pm_Queuesis_source cd_Queuesis_source ct_Queuesis_source : Value}
    {f__is_one_of : Addr} {od__is_one_of an__is_one_of : Option Addr} {sl__is_one_of : Array (Option Value)} {oc__is_one_of kV__is_one_of dc__is_one_of pm__is_one_of cd__is_one_of ct__is_one_of : Value}
    {f__need_one_of : Addr} {od__need_one_of an__need_one_of : Option Addr} {sl__need_one_of : Array (Option Value)} {oc__need_one_of kV__need_one_of dc__need_one_of pm__need_one_of cd__need_one_of ct__need_one_of : Value}
    {f_Lpot : Addr} {od_Lpot an_Lpot : Option Addr} {sl_Lpot : Array (Option Value)} {oc_Lpot kV_Lpot dc_Lpot pm_Lpot cd_Lpot ct_Lpot : Value}
    {f_Ldraw : Addr} {od_Ldraw an_Ldraw : Option Addr} {sl_Ldraw : Array (Option Value)} {oc_Ldraw kV_Ldraw dc_Ldraw pm_Ldraw cd_Ldraw ct_Ldraw : Value}
    {f_Lrows : Addr} {od_Lrows an_Lrows : Option Addr} {sl_Lrows : Array (Option Value)} {oc_Lrows kV_Lrows dc_Lrows pm_Lrows cd_Lrows ct_Lrows : Value}
    {f_Lplain : Addr} {od_Lplain an_Lplain : Option Addr} {sl_Lplain : Array (Option Value)} {oc_Lplain kV_Lplain dc_Lplain pm_Lplain cd_Lplain ct_Lplain : Value}
    {f_Ldone : Addr} {od_Ldone an_Ldone : Option Addr} {sl_Ldone : Array (Option Value)} {oc_Ldone kV_Ldone dc_Ldone pm_Ldone cd_Ldone ct_Ldone : Value}
    {f_Lread_from : Addr} {od_Lread_from an_Lread_from : Option Addr} {sl_Lread_from : Array (Option Value)} {oc_Lread_from kV_Lread_from dc_Lread_from pm_Lread_from cd_Lread_from ct_Lread_from : Value}
    {f_Lright : Addr} {od_Lright an_Lright : Option Addr} {sl_Lright : Array (Option Value)} {oc_Lright kV_Lright dc_Lright pm_Lright cd_Lright ct_Lright : Value}
    {f_law : Addr} {od_law an_law : Option Addr} {sl_law : Array (Option Value)} {oc_law kV_law dc_law pm_law cd_law ct_law : Value}
    {t_WORDS : Tok}
    {t_PLACES : Tok}
    {t__MOST_ROOMS : Tok}
    {aN : Addr} {nN : Nat}
    (aC_Queues : PySem.W.nsIn K mainGlobals "Queues" = some (some (.ref C_Queues))) (pg_Queues : PySem.W.plainGet K C_Queues Str.empty = true) (hd_Queues : PySem.W.hasDictIn K C_Queues = true) (po_Queues : PySem.W.plainOver K C_Queues = true) (sa_Queues : PySem.W.findIn K (.ref C_Queues) "__setattr__" = some (some (.builtin "object.__setattr__"))) (mk_Queues : PySem.W.makesIn K C_Queues = true) (kc_Queues : PySem.W.keepIn K (.ref C_Queues) = true)
    (n_Queues_load_rooms : PySem.W.findIn K (.ref C_Queues) "_load_rooms" = some none)
    (n_Queues_store_rooms : PySem.W.findIn K (.ref C_Queues) "_store_rooms" = some none)
    (n_Queues_loads : PySem.W.findIn K (.ref C_Queues) "_loads" = some none)
    (n_Queues_stores : PySem.W.findIn K (.ref C_Queues) "_stores" = some none)
    (a_is_integer : PySem.W.nsIn K mainGlobals "is_integer" = some (some (.ref f_is_integer)))
    (l_is_integer : K.lookup f_is_integer = some ⟨oc_is_integer, od_is_integer, .func (PySem.W.fnOf "is_integer" "is_integer" (defArgs s_is_integer) (defBody s_is_integer) (defScope s_is_integer) .none kV_is_integer dc_is_integer pm_is_integer an_is_integer cd_is_integer ct_is_integer), sl_is_integer⟩)
    (c_is_integer : PySem.W.codeIn K cd_is_integer "is_integer" = true) (k_is_integer : PySem.W.keepIn K (.ref f_is_integer) = true)
    (a_is_count : PySem.W.nsIn K mainGlobals "is_count" = some (some (.ref f_is_count)))
    (l_is_count : K.lookup f_is_count = some ⟨oc_is_count, od_is_count, .func (PySem.W.fnOf "is_count" "is_count" (defArgs s_is_count) (defBody s_is_count) (defScope s_is_count) .none kV_is_count dc_is_count pm_is_count an_is_count cd_is_count ct_is_count), sl_is_count⟩)
    (c_is_count : PySem.W.codeIn K cd_is_count "is_count" = true) (k_is_count : PySem.W.keepIn K (.ref f_is_count) = true)
    (a_is_between : PySem.W.nsIn K mainGlobals "is_between" = some (some (.ref f_is_between)))
    (l_is_between : K.lookup f_is_between = some ⟨oc_is_between, od_is_between, .func (PySem.W.fnOf "is_between" "is_between" (defArgs s_is_between) (defBody s_is_between) (defScope s_is_between) .none kV_is_between dc_is_between pm_is_between an_is_between cd_is_between ct_is_between), sl_is_between⟩)
    (c_is_between : PySem.W.codeIn K cd_is_between "is_between" = true) (k_is_between : PySem.W.keepIn K (.ref f_is_between) = true)
    (a_need_many : PySem.W.nsIn K mainGlobals "need_many" = some (some (.ref f_need_many)))
    (l_need_many : K.lookup f_need_many = some ⟨oc_need_many, od_need_many, .func (PySem.W.fnOf "need_many" "need_many" (defArgs s_need_many) (defBody s_need_many) (defScope s_need_many) .none kV_need_many dc_need_many pm_need_many an_need_many cd_need_many ct_need_many), sl_need_many⟩)
    (c_need_many : PySem.W.codeIn K cd_need_many "need_many" = true) (k_need_many : PySem.W.keepIn K (.ref f_need_many) = true)
    (a_need_number : PySem.W.nsIn K mainGlobals "need_number" = some (some (.ref f_need_number)))
    (l_need_number : K.lookup f_need_number = some ⟨oc_need_number, od_need_number, .func (PySem.W.fnOf "need_number" "need_number" (defArgs s_need_number) (defBody s_need_number) (defScope s_need_number) .none kV_need_number dc_need_number pm_need_number an_need_number cd_need_number ct_need_number), sl_need_number⟩)
    (c_need_number : PySem.W.codeIn K cd_need_number "need_number" = true) (k_need_number : PySem.W.keepIn K (.ref f_need_number) = true)
    (a_is_word : PySem.W.nsIn K mainGlobals "is_word" = some (some (.ref f_is_word)))
    (l_is_word : K.lookup f_is_word = some ⟨oc_is_word, od_is_word, .func (PySem.W.fnOf "is_word" "is_word" (defArgs s_is_word) (defBody s_is_word) (defScope s_is_word) .none kV_is_word dc_is_word pm_is_word an_is_word cd_is_word ct_is_word), sl_is_word⟩)
    (c_is_word : PySem.W.codeIn K cd_is_word "is_word" = true) (k_is_word : PySem.W.keepIn K (.ref f_is_word) = true)
    (a_is_place : PySem.W.nsIn K mainGlobals "is_place" = some (some (.ref f_is_place)))
    (l_is_place : K.lookup f_is_place = some ⟨oc_is_place, od_is_place, .func (PySem.W.fnOf "is_place" "is_place" (defArgs s_is_place) (defBody s_is_place) (defScope s_is_place) .none kV_is_place dc_is_place pm_is_place an_is_place cd_is_place ct_is_place), sl_is_place⟩)
    (c_is_place : PySem.W.codeIn K cd_is_place "is_place" = true) (k_is_place : PySem.W.keepIn K (.ref f_is_place) = true)
    (a_need_word : PySem.W.nsIn K mainGlobals "need_word" = some (some (.ref f_need_word)))
    (l_need_word : K.lookup f_need_word = some ⟨oc_need_word, od_need_word, .func (PySem.W.fnOf "need_word" "need_word" (defArgs s_need_word) (defBody s_need_word) (defScope s_need_word) .none kV_need_word dc_need_word pm_need_word an_need_word cd_need_word ct_need_word), sl_need_word⟩)
    (c_need_word : PySem.W.codeIn K cd_need_word "need_word" = true) (k_need_word : PySem.W.keepIn K (.ref f_need_word) = true)
    (a_need_place : PySem.W.nsIn K mainGlobals "need_place" = some (some (.ref f_need_place)))
    (l_need_place : K.lookup f_need_place = some ⟨oc_need_place, od_need_place, .func (PySem.W.fnOf "need_place" "need_place" (defArgs s_need_place) (defBody s_need_place) (defScope s_need_place) .none kV_need_place dc_need_place pm_need_place an_need_place cd_need_place ct_need_place), sl_need_place⟩)
    (c_need_place : PySem.W.codeIn K cd_need_place "need_place" = true) (k_need_place : PySem.W.keepIn K (.ref f_need_place) = true)
    (a_Queues_init : PySem.W.findIn K (.ref C_Queues) "__init__" = some (some (.ref f_Queues_init)))
    (i_Queues_init : PySem.W.isFn K (.ref f_Queues_init) = true)
    (l_Queues_init : K.lookup f_Queues_init = some ⟨oc_Queues_init, od_Queues_init, .func (PySem.W.fnOf "__init__" "Queues.__init__" (defArgs s_Queues_init) (defBody s_Queues_init) (defScope s_Queues_init) .none kV_Queues_init dc_Queues_init pm_Queues_init an_Queues_init cd_Queues_init ct_Queues_init), sl_Queues_init⟩)
    (c_Queues_init : PySem.W.codeIn K cd_Queues_init "Queues.__init__" = true) (k_Queues_init : PySem.W.keepIn K (.ref f_Queues_init) = true)
    (a_Queues_can_load : PySem.W.findIn K (.ref C_Queues) "can_load" = some (some (.ref pa_Queues_can_load))) (pg_Queues_can_load : PySem.W.specialIn K (.ref pa_Queues_can_load) "__get__" = some (some (.builtin "property.__get__"))) (pt_Queues_can_load : PySem.W.takesIn K (.ref pa_Queues_can_load) = some true) (pq_Queues_can_load : PySem.W.recIn K pa_Queues_can_load "property" = some (.ref f_Queues_can_load :: pr_Queues_can_load))
    (l_Queues_can_load : K.lookup f_Queues_can_load = some ⟨oc_Queues_can_load, od_Queues_can_load, .func (PySem.W.fnOf "can_load" "Queues.can_load" (defArgs s_Queues_can_load) (defBody s_Queues_can_load) (defScope s_Queues_can_load) .none kV_Queues_can_load dc_Queues_can_load pm_Queues_can_load an_Queues_can_load cd_Queues_can_load ct_Queues_can_load), sl_Queues_can_load⟩)
    (c_Queues_can_load : PySem.W.codeIn K cd_Queues_can_load "Queues.can_load" = true) (k_Queues_can_load : PySem.W.keepIn K (.ref f_Queues_can_load) = true)
    (a_Queues_can_store : PySem.W.findIn K (.ref C_Queues) "can_store" = some (some (.ref pa_Queues_can_store))) (pg_Queues_can_store : PySem.W.specialIn K (.ref pa_Queues_can_store) "__get__" = some (some (.builtin "property.__get__"))) (pt_Queues_can_store : PySem.W.takesIn K (.ref pa_Queues_can_store) = some true) (pq_Queues_can_store : PySem.W.recIn K pa_Queues_can_store "property" = some (.ref f_Queues_can_store :: pr_Queues_can_store))
    (l_Queues_can_store : K.lookup f_Queues_can_store = some ⟨oc_Queues_can_store, od_Queues_can_store, .func (PySem.W.fnOf "can_store" "Queues.can_store" (defArgs s_Queues_can_store) (defBody s_Queues_can_store) (defScope s_Queues_can_store) .none kV_Queues_can_store dc_Queues_can_store pm_Queues_can_store an_Queues_can_store cd_Queues_can_store ct_Queues_can_store), sl_Queues_can_store⟩)
    (c_Queues_can_store : PySem.W.codeIn K cd_Queues_can_store "Queues.can_store" = true) (k_Queues_can_store : PySem.W.keepIn K (.ref f_Queues_can_store) = true)
    (a_Queues_load_entered : PySem.W.findIn K (.ref C_Queues) "load_entered" = some (some (.ref f_Queues_load_entered)))
    (i_Queues_load_entered : PySem.W.isFn K (.ref f_Queues_load_entered) = true)
    (l_Queues_load_entered : K.lookup f_Queues_load_entered = some ⟨oc_Queues_load_entered, od_Queues_load_entered, .func (PySem.W.fnOf "load_entered" "Queues.load_entered" (defArgs s_Queues_load_entered) (defBody s_Queues_load_entered) (defScope s_Queues_load_entered) .none kV_Queues_load_entered dc_Queues_load_entered pm_Queues_load_entered an_Queues_load_entered cd_Queues_load_entered ct_Queues_load_entered), sl_Queues_load_entered⟩)
    (c_Queues_load_entered : PySem.W.codeIn K cd_Queues_load_entered "Queues.load_entered" = true) (k_Queues_load_entered : PySem.W.keepIn K (.ref f_Queues_load_entered) = true)
    (a_Queues_store_entered : PySem.W.findIn K (.ref C_Queues) "store_entered" = some (some (.ref f_Queues_store_entered)))
    (i_Queues_store_entered : PySem.W.isFn K (.ref f_Queues_store_entered) = true)
    (l_Queues_store_entered : K.lookup f_Queues_store_entered = some ⟨oc_Queues_store_entered, od_Queues_store_entered, .func (PySem.W.fnOf "store_entered" "Queues.store_entered" (defArgs s_Queues_store_entered) (defBody s_Queues_store_entered) (defScope s_Queues_store_entered) .none kV_Queues_store_entered dc_Queues_store_entered pm_Queues_store_entered an_Queues_store_entered cd_Queues_store_entered ct_Queues_store_entered), sl_Queues_store_entered⟩)
    (c_Queues_store_entered : PySem.W.codeIn K cd_Queues_store_entered "Queues.store_entered" = true) (k_Queues_store_entered : PySem.W.keepIn K (.ref f_Queues_store_entered) = true)
    (a_Queues_known : PySem.W.findIn K (.ref C_Queues) "known" = some (some (.ref f_Queues_known)))
    (i_Queues_known : PySem.W.isFn K (.ref f_Queues_known) = true)
    (l_Queues_known : K.lookup f_Queues_known = some ⟨oc_Queues_known, od_Queues_known, .func (PySem.W.fnOf "known" "Queues.known" (defArgs s_Queues_known) (defBody s_Queues_known) (defScope s_Queues_known) .none kV_Queues_known dc_Queues_known pm_Queues_known an_Queues_known cd_Queues_known ct_Queues_known), sl_Queues_known⟩)
    (c_Queues_known : PySem.W.codeIn K cd_Queues_known "Queues.known" = true) (k_Queues_known : PySem.W.keepIn K (.ref f_Queues_known) = true)
    (a_Queues_source : PySem.W.findIn K (.ref C_Queues) "source" = some (some (.ref f_Queues_source)))
    (i_Queues_source : PySem.W.isFn K (.ref f_Queues_source) = true)
    (l_Queues_source : K.lookup f_Queues_source = some ⟨oc_Queues_source, od_Queues_source, .func (PySem.W.fnOf "source" "Queues.source" (defArgs s_Queues_source) (defBody s_Queues_source) (defScope s_Queues_source) .none kV_Queues_source dc_Queues_source pm_Queues_source an_Queues_source cd_Queues_source ct_Queues_source), sl_Queues_source⟩)
    (c_Queues_source : PySem.W.codeIn K cd_Queues_source "Queues.source" = true) (k_Queues_source : PySem.W.keepIn K (.ref f_Queues_source) = true)
    (a_Queues_read : PySem.W.findIn K (.ref C_Queues) "read" = some (some (.ref f_Queues_read)))
    (i_Queues_read : PySem.W.isFn K (.ref f_Queues_read) = true)
    (l_Queues_read : K.lookup f_Queues_read = some ⟨oc_Queues_read, od_Queues_read, .func (PySem.W.fnOf "read" "Queues.read" (defArgs s_Queues_read) (defBody s_Queues_read) (defScope s_Queues_read) .none kV_Queues_read dc_Queues_read pm_Queues_read an_Queues_read cd_Queues_read ct_Queues_read), sl_Queues_read⟩)
    (c_Queues_read : PySem.W.codeIn K cd_Queues_read "Queues.read" = true) (k_Queues_read : PySem.W.keepIn K (.ref f_Queues_read) = true)
    (a_Queues_leave : PySem.W.findIn K (.ref C_Queues) "leave" = some (some (.ref f_Queues_leave)))
    (i_Queues_leave : PySem.W.isFn K (.ref f_Queues_leave) = true)
    (l_Queues_leave : K.lookup f_Queues_leave = some ⟨oc_Queues_leave, od_Queues_leave, .func (PySem.W.fnOf "leave" "Queues.leave" (defArgs s_Queues_leave) (defBody s_Queues_leave) (defScope s_Queues_leave) .none kV_Queues_leave dc_Queues_leave pm_Queues_leave an_Queues_leave cd_Queues_leave ct_Queues_leave), sl_Queues_leave⟩)
    (c_Queues_leave : PySem.W.codeIn K cd_Queues_leave "Queues.leave" = true) (k_Queues_leave : PySem.W.keepIn K (.ref f_Queues_leave) = true)
    (a_Queues_dropped : PySem.W.findIn K (.ref C_Queues) "dropped" = some (some (.ref f_Queues_dropped)))
    (i_Queues_dropped : PySem.W.isFn K (.ref f_Queues_dropped) = true)
    (l_Queues_dropped : K.lookup f_Queues_dropped = some ⟨oc_Queues_dropped, od_Queues_dropped, .func (PySem.W.fnOf "dropped" "Queues.dropped" (defArgs s_Queues_dropped) (defBody s_Queues_dropped) (defScope s_Queues_dropped) .none kV_Queues_dropped dc_Queues_dropped pm_Queues_dropped an_Queues_dropped cd_Queues_dropped ct_Queues_dropped), sl_Queues_dropped⟩)
    (c_Queues_dropped : PySem.W.codeIn K cd_Queues_dropped "Queues.dropped" = true) (k_Queues_dropped : PySem.W.keepIn K (.ref f_Queues_dropped) = true)
    (a_Queues_loads : PySem.W.findIn K (.ref C_Queues) "loads" = some (some (.ref f_Queues_loads)))
    (i_Queues_loads : PySem.W.isFn K (.ref f_Queues_loads) = true)
    (l_Queues_loads : K.lookup f_Queues_loads = some ⟨oc_Queues_loads, od_Queues_loads, .func (PySem.W.fnOf "loads" "Queues.loads" (defArgs s_Queues_loads) (defBody s_Queues_loads) (defScope s_Queues_loads) .none kV_Queues_loads dc_Queues_loads pm_Queues_loads an_Queues_loads cd_Queues_loads ct_Queues_loads), sl_Queues_loads⟩)
    (c_Queues_loads : PySem.W.codeIn K cd_Queues_loads "Queues.loads" = true) (k_Queues_loads : PySem.W.keepIn K (.ref f_Queues_loads) = true)
    (a_Queues_stores : PySem.W.findIn K (.ref C_Queues) "stores" = some (some (.ref f_Queues_stores)))
    (i_Queues_stores : PySem.W.isFn K (.ref f_Queues_stores) = true)
    (l_Queues_stores : K.lookup f_Queues_stores = some ⟨oc_Queues_stores, od_Queues_stores, .func (PySem.W.fnOf "stores" "Queues.stores" (defArgs s_Queues_stores) (defBody s_Queues_stores) (defScope s_Queues_stores) .none kV_Queues_stores dc_Queues_stores pm_Queues_stores an_Queues_stores cd_Queues_stores ct_Queues_stores), sl_Queues_stores⟩)
    (c_Queues_stores : PySem.W.codeIn K cd_Queues_stores "Queues.stores" = true) (k_Queues_stores : PySem.W.keepIn K (.ref f_Queues_stores) = true)
    (a_Queuesall_numbers : PySem.W.findIn K (.ref C_Queues) "_all_numbers" = some (some (.ref f_Queuesall_numbers)))
    (i_Queuesall_numbers : PySem.W.isFn K (.ref f_Queuesall_numbers) = true)
    (l_Queuesall_numbers : K.lookup f_Queuesall_numbers = some ⟨oc_Queuesall_numbers, od_Queuesall_numbers, .func (PySem.W.fnOf "_all_numbers" "Queues._all_numbers" (defArgs s_Queuesall_numbers) (defBody s_Queuesall_numbers) (defScope s_Queuesall_numbers) .none kV_Queuesall_numbers dc_Queuesall_numbers pm_Queuesall_numbers an_Queuesall_numbers cd_Queuesall_numbers ct_Queuesall_numbers), sl_Queuesall_numbers⟩)
    (c_Queuesall_numbers : PySem.W.codeIn K cd_Queuesall_numbers "Queues._all_numbers" = true) (k_Queuesall_numbers : PySem.W.keepIn K (.ref f_Queuesall_numbers) = true)
    (a_Queuesneed_above_all : PySem.W.findIn K (.ref C_Queues) "_need_above_all" = some (some (.ref f_Queuesneed_above_all)))
    (i_Queuesneed_above_all : PySem.W.isFn K (.ref f_Queuesneed_above_all) = true)
    (l_Queuesneed_above_all : K.lookup f_Queuesneed_above_all = some ⟨oc_Queuesneed_above_all, od_Queuesneed_above_all, .func (PySem.W.fnOf "_need_above_all" "Queues._need_above_all" (defArgs s_Queuesneed_above_all) (defBody s_Queuesneed_above_all) (defScope s_Queuesneed_above_all) .none kV_Queuesneed_above_all dc_Queuesneed_above_all pm_Queuesneed_above_all an_Queuesneed_above_all cd_Queuesneed_above_all ct_Queuesneed_above_all), sl_Queuesneed_above_all⟩)
    (c_Queuesneed_above_all : PySem.W.codeIn K cd_Queuesneed_above_all "Queues._need_above_all" = true) (k_Queuesneed_above_all : PySem.W.keepIn K (.ref f_Queuesneed_above_all) = true)
    (a_Queuesis_source : PySem.W.findIn K (.ref C_Queues) "_is_source" = some (some (.ref f_Queuesis_source)))
    (i_Queuesis_source : PySem.W.isFn K (.ref f_Queuesis_source) = true)
    (l_Queuesis_source : K.lookup f_Queuesis_source = some ⟨oc_Queuesis_source, od_Queuesis_source, .func (PySem.W.fnOf "_is_source" "Queues._is_source" (defArgs s_Queuesis_source) (defBody s_Queuesis_source) (defScope s_Queuesis_source) .none kV_Queuesis_source dc_Queuesis_source pm_Queuesis_source an_Queuesis_source cd_Queuesis_source ct_Queuesis_source), sl_Queuesis_source⟩)
    (c_Queuesis_source : PySem.W.codeIn K cd_Queuesis_source "Queues._is_source" = true) (k_Queuesis_source : PySem.W.keepIn K (.ref f_Queuesis_source) = true)
    (a__is_one_of : PySem.W.nsIn K mainGlobals "_is_one_of" = some (some (.ref f__is_one_of)))
    (l__is_one_of : K.lookup f__is_one_of = some ⟨oc__is_one_of, od__is_one_of, .func (PySem.W.fnOf "_is_one_of" "_is_one_of" (defArgs s__is_one_of) (defBody s__is_one_of) (defScope s__is_one_of) .none kV__is_one_of dc__is_one_of pm__is_one_of an__is_one_of cd__is_one_of ct__is_one_of), sl__is_one_of⟩)
    (c__is_one_of : PySem.W.codeIn K cd__is_one_of "_is_one_of" = true) (k__is_one_of : PySem.W.keepIn K (.ref f__is_one_of) = true)
    (a__need_one_of : PySem.W.nsIn K mainGlobals "_need_one_of" = some (some (.ref f__need_one_of)))
    (l__need_one_of : K.lookup f__need_one_of = some ⟨oc__need_one_of, od__need_one_of, .func (PySem.W.fnOf "_need_one_of" "_need_one_of" (defArgs s__need_one_of) (defBody s__need_one_of) (defScope s__need_one_of) .none kV__need_one_of dc__need_one_of pm__need_one_of an__need_one_of cd__need_one_of ct__need_one_of), sl__need_one_of⟩)
    (c__need_one_of : PySem.W.codeIn K cd__need_one_of "_need_one_of" = true) (k__need_one_of : PySem.W.keepIn K (.ref f__need_one_of) = true)
    (a_Lpot : PySem.W.nsIn K mainGlobals "_law_pot" = some (some (.ref f_Lpot)))
    (l_Lpot : K.lookup f_Lpot = some ⟨oc_Lpot, od_Lpot, .func (PySem.W.fnOf "_law_pot" "_law_pot" (defArgs s_Lpot) (defBody s_Lpot) (defScope s_Lpot) .none kV_Lpot dc_Lpot pm_Lpot an_Lpot cd_Lpot ct_Lpot), sl_Lpot⟩)
    (c_Lpot : PySem.W.codeIn K cd_Lpot "_law_pot" = true) (k_Lpot : PySem.W.keepIn K (.ref f_Lpot) = true)
    (a_Ldraw : PySem.W.nsIn K mainGlobals "_law_draw" = some (some (.ref f_Ldraw)))
    (l_Ldraw : K.lookup f_Ldraw = some ⟨oc_Ldraw, od_Ldraw, .func (PySem.W.fnOf "_law_draw" "_law_draw" (defArgs s_Ldraw) (defBody s_Ldraw) (defScope s_Ldraw) .none kV_Ldraw dc_Ldraw pm_Ldraw an_Ldraw cd_Ldraw ct_Ldraw), sl_Ldraw⟩)
    (c_Ldraw : PySem.W.codeIn K cd_Ldraw "_law_draw" = true) (k_Ldraw : PySem.W.keepIn K (.ref f_Ldraw) = true)
    (a_Lrows : PySem.W.nsIn K mainGlobals "_law_rows" = some (some (.ref f_Lrows)))
    (l_Lrows : K.lookup f_Lrows = some ⟨oc_Lrows, od_Lrows, .func (PySem.W.fnOf "_law_rows" "_law_rows" (defArgs s_Lrows) (defBody s_Lrows) (defScope s_Lrows) .none kV_Lrows dc_Lrows pm_Lrows an_Lrows cd_Lrows ct_Lrows), sl_Lrows⟩)
    (c_Lrows : PySem.W.codeIn K cd_Lrows "_law_rows" = true) (k_Lrows : PySem.W.keepIn K (.ref f_Lrows) = true)
    (a_Lplain : PySem.W.nsIn K mainGlobals "_law_plain" = some (some (.ref f_Lplain)))
    (l_Lplain : K.lookup f_Lplain = some ⟨oc_Lplain, od_Lplain, .func (PySem.W.fnOf "_law_plain" "_law_plain" (defArgs s_Lplain) (defBody s_Lplain) (defScope s_Lplain) .none kV_Lplain dc_Lplain pm_Lplain an_Lplain cd_Lplain ct_Lplain), sl_Lplain⟩)
    (c_Lplain : PySem.W.codeIn K cd_Lplain "_law_plain" = true) (k_Lplain : PySem.W.keepIn K (.ref f_Lplain) = true)
    (a_Ldone : PySem.W.nsIn K mainGlobals "_law_done" = some (some (.ref f_Ldone)))
    (l_Ldone : K.lookup f_Ldone = some ⟨oc_Ldone, od_Ldone, .func (PySem.W.fnOf "_law_done" "_law_done" (defArgs s_Ldone) (defBody s_Ldone) (defScope s_Ldone) .none kV_Ldone dc_Ldone pm_Ldone an_Ldone cd_Ldone ct_Ldone), sl_Ldone⟩)
    (c_Ldone : PySem.W.codeIn K cd_Ldone "_law_done" = true) (k_Ldone : PySem.W.keepIn K (.ref f_Ldone) = true)
    (a_Lread_from : PySem.W.nsIn K mainGlobals "_law_read_from" = some (some (.ref f_Lread_from)))
    (l_Lread_from : K.lookup f_Lread_from = some ⟨oc_Lread_from, od_Lread_from, .func (PySem.W.fnOf "_law_read_from" "_law_read_from" (defArgs s_Lread_from) (defBody s_Lread_from) (defScope s_Lread_from) .none kV_Lread_from dc_Lread_from pm_Lread_from an_Lread_from cd_Lread_from ct_Lread_from), sl_Lread_from⟩)
    (c_Lread_from : PySem.W.codeIn K cd_Lread_from "_law_read_from" = true) (k_Lread_from : PySem.W.keepIn K (.ref f_Lread_from) = true)
    (a_Lright : PySem.W.nsIn K mainGlobals "_law_right" = some (some (.ref f_Lright)))
    (l_Lright : K.lookup f_Lright = some ⟨oc_Lright, od_Lright, .func (PySem.W.fnOf "_law_right" "_law_right" (defArgs s_Lright) (defBody s_Lright) (defScope s_Lright) .none kV_Lright dc_Lright pm_Lright an_Lright cd_Lright ct_Lright), sl_Lright⟩)
    (c_Lright : PySem.W.codeIn K cd_Lright "_law_right" = true) (k_Lright : PySem.W.keepIn K (.ref f_Lright) = true)
    (a_law : PySem.W.nsIn K mainGlobals "law" = some (some (.ref f_law)))
    (l_law : K.lookup f_law = some ⟨oc_law, od_law, .func (PySem.W.fnOf "law" "law" (defArgs s_law) (defBody s_law) (defScope s_law) .none kV_law dc_law pm_law an_law cd_law ct_law), sl_law⟩)
    (c_law : PySem.W.codeIn K cd_law "law" = true) (k_law : PySem.W.keepIn K (.ref f_law) = true)
    (z_abs : PySem.W.nsIn K mainGlobals "abs" = some none)
    (z_any : PySem.W.nsIn K mainGlobals "any" = some none)
    (z_bool : PySem.W.nsIn K mainGlobals "bool" = some none)
    (z_divmod : PySem.W.nsIn K mainGlobals "divmod" = some none)
    (z_enumerate : PySem.W.nsIn K mainGlobals "enumerate" = some none)
    (z_int : PySem.W.nsIn K mainGlobals "int" = some none)
    (z_isinstance : PySem.W.nsIn K mainGlobals "isinstance" = some none)
    (z_len : PySem.W.nsIn K mainGlobals "len" = some none)
    (z_list : PySem.W.nsIn K mainGlobals "list" = some none)
    (z_max : PySem.W.nsIn K mainGlobals "max" = some none)
    (z_min : PySem.W.nsIn K mainGlobals "min" = some none)
    (z_range : PySem.W.nsIn K mainGlobals "range" = some none)
    (x_WORDS : PySem.W.nsIn K mainGlobals "WORDS" = some (some (.int 65536 t_WORDS)))
    (x_PLACES : PySem.W.nsIn K mainGlobals "PLACES" = some (some (.int 1024 t_PLACES)))
    (x__MOST_ROOMS : PySem.W.nsIn K mainGlobals "_MOST_ROOMS" = some (some (.int 8 t__MOST_ROOMS)))
    (qN : PySem.W.nsIn K mainGlobals "_NOTHING" = some (some (.ref aN))) (lN : K.lookup aN = some ⟨.type "tuple", none, .seq #[.none, .none] nN, #[]⟩)
    : ∃ fd : FuncData, (∀ (s : Shared) (v : Value), BindsTo s fd ⟨[v], []⟩ [("_law_script", v)]) ∧ ∀ base : Heap, K.In base → base.Ns mainGlobals mg → FnOk l.prog w K mg base CX0 8 fa fd ["_law_script"] (sp_law K) := by
  have e := hfa.symm.trans (PySem.W.mg_of X G a_law)
  cases e
  let T : Txt K mg := {
    C_Queues := C_Queues, cl_Queues := ⟨pg_Queues, hd_Queues, po_Queues, sa_Queues⟩, g_Queues := PySem.W.mg_of X G aC_Queues,
    n_Queues_load_rooms := n_Queues_load_rooms,
    n_Queues_store_rooms := n_Queues_store_rooms,
    n_Queues_loads := n_Queues_loads,
    n_Queues_stores := n_Queues_stores,
    f_is_integer := _, fd_is_integer := _, F_is_integer := fun_mk (st := s_is_integer) l_is_integer c_is_integer k_is_integer,
    g_is_integer := PySem.W.mg_of X G a_is_integer,
    b_is_integer := (fun_mk (st := s_is_integer) l_is_integer c_is_integer k_is_integer).binds (ps := ["value"]) fun _ _ _ _ _ _ us hl => match us, hl with | [_], _ => rfl,
    f_is_count := _, fd_is_count := _, F_is_count := fun_mk (st := s_is_count) l_is_count c_is_count k_is_count,
    g_is_count := PySem.W.mg_of X G a_is_count,
    b_is_count := (fun_mk (st := s_is_count) l_is_count c_is_count k_is_count).binds (ps := ["value"]) fun _ _ _ _ _ _ us hl => match us, hl with | [_], _ => rfl,
    f_is_between := _, fd_is_between := _, F_is_between := fun_mk (st := s_is_between) l_is_between c_is_between k_is_between,
    g_is_between := PySem.W.mg_of X G a_is_between,
    b_is_between := (fun_mk (st := s_is_between) l_is_between c_is_between k_is_between).binds (ps := ["value", "least", "most"]) fun _ _ _ _ _ _ us hl => match us, hl with | [_, _, _], _ => rfl,
    f_need_many := _, fd_need_many := _, F_need_many := fun_mk (st := s_need_many) l_need_many c_need_many k_need_many,
    g_need_many := PySem.W.mg_of X G a_need_many,
    b_need_many := (fun_mk (st := s_need_many) l_need_many c_need_many k_need_many).binds (ps := ["value", "least", "most"]) fun _ _ _ _ _ _ us hl => match us, hl with | [_, _, _], _ => rfl,
    f_need_number := _, fd_need_number := _, F_need_number := fun_mk (st := s_need_number) l_need_number c_need_number k_need_number,
    g_need_number := PySem.W.mg_of X G a_need_number,
    b_need_number := (fun_mk (st := s_need_number) l_need_number c_need_number k_need_number).binds (ps := ["value"]) fun _ _ _ _ _ _ us hl => match us, hl with | [_], _ => rfl,
    f_is_word := _, fd_is_word := _, F_is_word := fun_mk (st := s_is_word) l_is_word c_is_word k_is_word,
    g_is_word := PySem.W.mg_of X G a_is_word,
    b_is_word := (fun_mk (st := s_is_word) l_is_word c_is_word k_is_word).binds (ps := ["value"]) fun _ _ _ _ _ _ us hl => match us, hl with | [_], _ => rfl,
    f_is_place := _, fd_is_place := _, F_is_place := fun_mk (st := s_is_place) l_is_place c_is_place k_is_place,
    g_is_place := PySem.W.mg_of X G a_is_place,
    b_is_place := (fun_mk (st := s_is_place) l_is_place c_is_place k_is_place).binds (ps := ["value"]) fun _ _ _ _ _ _ us hl => match us, hl with | [_], _ => rfl,
    f_need_word := _, fd_need_word := _, F_need_word := fun_mk (st := s_need_word) l_need_word c_need_word k_need_word,
    g_need_word := PySem.W.mg_of X G a_need_word,
    b_need_word := (fun_mk (st := s_need_word) l_need_word c_need_word k_need_word).binds (ps := ["value"]) fun _ _ _ _ _ _ us hl => match us, hl with | [_], _ => rfl,
    f_need_place := _, fd_need_place := _, F_need_place := fun_mk (st := s_need_place) l_need_place c_need_place k_need_place,
    g_need_place := PySem.W.mg_of X G a_need_place,
    b_need_place := (fun_mk (st := s_need_place) l_need_place c_need_place k_need_place).binds (ps := ["value"]) fun _ _ _ _ _ _ us hl => match us, hl with | [_], _ => rfl,
    mk_Queues := ⟨mk_Queues, a_Queues_init, i_Queues_init, kc_Queues⟩,
    f_Queues_init := _, fd_Queues_init := _, F_Queues_init := fun_mk (st := s_Queues_init) l_Queues_init c_Queues_init k_Queues_init,
    b_Queues_init := (fun_mk (st := s_Queues_init) l_Queues_init c_Queues_init k_Queues_init).binds (ps := ["self", "loads", "stores"]) fun _ _ _ _ _ _ us hl => match us, hl with | [_, _, _], _ => rfl,
    pa_Queues_can_load := pa_Queues_can_load, p_Queues_can_load := ⟨a_Queues_can_load, pg_Queues_can_load, pt_Queues_can_load, ⟨_, pq_Queues_can_load⟩⟩,
    f_Queues_can_load := _, fd_Queues_can_load := _, F_Queues_can_load := fun_mk (st := s_Queues_can_load) l_Queues_can_load c_Queues_can_load k_Queues_can_load,
    b_Queues_can_load := (fun_mk (st := s_Queues_can_load) l_Queues_can_load c_Queues_can_load k_Queues_can_load).binds (ps := ["self"]) fun _ _ _ _ _ _ us hl => match us, hl with | [_], _ => rfl,
    pa_Queues_can_store := pa_Queues_can_store, p_Queues_can_store := ⟨a_Queues_can_store, pg_Queues_can_store, pt_Queues_can_store, ⟨_, pq_Queues_can_store⟩⟩,
    f_Queues_can_store := _, fd_Queues_can_store := _, F_Queues_can_store := fun_mk (st := s_Queues_can_store) l_Queues_can_store c_Queues_can_store k_Queues_can_store,
    b_Queues_can_store := (fun_mk (st := s_Queues_can_store) l_Queues_can_store c_Queues_can_store k_Queues_can_store).binds (ps := ["self"]) fun _ _ _ _ _ _ us hl => match us, hl with | [_], _ => rfl,
    me_Queues_load_entered := ⟨a_Queues_load_entered, i_Queues_load_entered, k_Queues_load_entered⟩,
    f_Queues_load_entered := _, fd_Queues_load_entered := _, F_Queues_load_entered := fun_mk (st := s_Queues_load_entered) l_Queues_load_entered c_Queues_load_entered k_Queues_load_entered,
    b_Queues_load_entered := (fun_mk (st := s_Queues_load_entered) l_Queues_load_entered c_Queues_load_entered k_Queues_load_entered).binds (ps := ["self", "number"]) fun _ _ _ _ _ _ us hl => match us, hl with | [_, _], _ => rfl,
    me_Queues_store_entered := ⟨a_Queues_store_entered, i_Queues_store_entered, k_Queues_store_entered⟩,
    f_Queues_store_entered := _, fd_Queues_store_entered := _, F_Queues_store_entered := fun_mk (st := s_Queues_store_entered) l_Queues_store_entered c_Queues_store_entered k_Queues_store_entered,
    b_Queues_store_entered := (fun_mk (st := s_Queues_store_entered) l_Queues_store_entered c_Queues_store_entered k_Queues_store_entered).binds (ps := ["self", "number"]) fun _ _ _ _ _ _ us hl => match us, hl with | [_, _], _ => rfl,
    me_Queues_known := ⟨a_Queues_known, i_Queues_known, k_Queues_known⟩,
    f_Queues_known := _, fd_Queues_known := _, F_Queues_known := fun_mk (st := s_Queues_known) l_Queues_known c_Queues_known k_Queues_known,
    b_Queues_known := (fun_mk (st := s_Queues_known) l_Queues_known c_Queues_known k_Queues_known).binds (ps := ["self", "number", "place", "word"]) fun _ _ _ _ _ _ us hl => match us, hl with | [_, _, _, _], _ => rfl,
    me_Queues_source := ⟨a_Queues_source, i_Queues_source, k_Queues_source⟩,
    f_Queues_source := _, fd_Queues_source := _, F_Queues_source := fun_mk (st := s_Queues_source) l_Queues_source c_Queues_source k_Queues_source,
    b_Queues_source := (fun_mk (st := s_Queues_source) l_Queues_source c_Queues_source k_Queues_source).binds (ps := ["self", "number", "place"]) fun _ _ _ _ _ _ us hl => match us, hl with | [_, _, _], _ => rfl,
    me_Queues_read := ⟨a_Queues_read, i_Queues_read, k_Queues_read⟩,
    f_Queues_read := _, fd_Queues_read := _, F_Queues_read := fun_mk (st := s_Queues_read) l_Queues_read c_Queues_read k_Queues_read,
    b_Queues_read := (fun_mk (st := s_Queues_read) l_Queues_read c_Queues_read k_Queues_read).binds (ps := ["self", "number", "place", "source"]) fun _ _ _ _ _ _ us hl => match us, hl with | [_, _, _, _], _ => rfl,
    me_Queues_leave := ⟨a_Queues_leave, i_Queues_leave, k_Queues_leave⟩,
    f_Queues_leave := _, fd_Queues_leave := _, F_Queues_leave := fun_mk (st := s_Queues_leave) l_Queues_leave c_Queues_leave k_Queues_leave,
    b_Queues_leave := (fun_mk (st := s_Queues_leave) l_Queues_leave c_Queues_leave k_Queues_leave).binds (ps := ["self", "number"]) fun _ _ _ _ _ _ us hl => match us, hl with | [_, _], _ => rfl,
    me_Queues_dropped := ⟨a_Queues_dropped, i_Queues_dropped, k_Queues_dropped⟩,
    f_Queues_dropped := _, fd_Queues_dropped := _, F_Queues_dropped := fun_mk (st := s_Queues_dropped) l_Queues_dropped c_Queues_dropped k_Queues_dropped,
    b_Queues_dropped := (fun_mk (st := s_Queues_dropped) l_Queues_dropped c_Queues_dropped k_Queues_dropped).binds (ps := ["self", "number"]) fun _ _ _ _ _ _ us hl => match us, hl with | [_, _], _ => rfl,
    me_Queues_loads := ⟨a_Queues_loads, i_Queues_loads, k_Queues_loads⟩,
    f_Queues_loads := _, fd_Queues_loads := _, F_Queues_loads := fun_mk (st := s_Queues_loads) l_Queues_loads c_Queues_loads k_Queues_loads,
    b_Queues_loads := (fun_mk (st := s_Queues_loads) l_Queues_loads c_Queues_loads k_Queues_loads).binds (ps := ["self"]) fun _ _ _ _ _ _ us hl => match us, hl with | [_], _ => rfl,
    me_Queues_stores := ⟨a_Queues_stores, i_Queues_stores, k_Queues_stores⟩,
    f_Queues_stores := _, fd_Queues_stores := _, F_Queues_stores := fun_mk (st := s_Queues_stores) l_Queues_stores c_Queues_stores k_Queues_stores,
    b_Queues_stores := (fun_mk (st := s_Queues_stores) l_Queues_stores c_Queues_stores k_Queues_stores).binds (ps := ["self"]) fun _ _ _ _ _ _ us hl => match us, hl with | [_], _ => rfl,
    me_Queuesall_numbers := ⟨a_Queuesall_numbers, i_Queuesall_numbers, k_Queuesall_numbers⟩,
    f_Queuesall_numbers := _, fd_Queuesall_numbers := _, F_Queuesall_numbers := fun_mk (st := s_Queuesall_numbers) l_Queuesall_numbers c_Queuesall_numbers k_Queuesall_numbers,
    b_Queuesall_numbers := (fun_mk (st := s_Queuesall_numbers) l_Queuesall_numbers c_Queuesall_numbers k_Queuesall_numbers).binds (ps := ["self"]) fun _ _ _ _ _ _ us hl => match us, hl with | [_], _ => rfl,
    me_Queuesneed_above_all := ⟨a_Queuesneed_above_all, i_Queuesneed_above_all, k_Queuesneed_above_all⟩,
    f_Queuesneed_above_all := _, fd_Queuesneed_above_all := _, F_Queuesneed_above_all := fun_mk (st := s_Queuesneed_above_all) l_Queuesneed_above_all c_Queuesneed_above_all k_Queuesneed_above_all,
    b_Queuesneed_above_all := (fun_mk (st := s_Queuesneed_above_all) l_Queuesneed_above_all c_Queuesneed_above_all k_Queuesneed_above_all).binds (ps := ["self", "value"]) fun _ _ _ _ _ _ us hl => match us, hl with | [_, _], _ => rfl,
    me_Queuesis_source := ⟨a_Queuesis_source, i_Queuesis_source, k_Queuesis_source⟩,
    f_Queuesis_source := _, fd_Queuesis_source := _, F_Queuesis_source := fun_mk (st := s_Queuesis_source) l_Queuesis_source c_Queuesis_source k_Queuesis_source,
    b_Queuesis_source := (fun_mk (st := s_Queuesis_source) l_Queuesis_source c_Queuesis_source k_Queuesis_source).binds (ps := ["self", "value", "number", "place"]) fun _ _ _ _ _ _ us hl => match us, hl with | [_, _, _, _], _ => rfl,
    f__is_one_of := _, fd__is_one_of := _, F__is_one_of := fun_mk (st := s__is_one_of) l__is_one_of c__is_one_of k__is_one_of,
    g__is_one_of := PySem.W.mg_of X G a__is_one_of,
    b__is_one_of := (fun_mk (st := s__is_one_of) l__is_one_of c__is_one_of k__is_one_of).binds (ps := ["queue", "value"]) fun _ _ _ _ _ _ us hl => match us, hl with | [_, _], _ => rfl,
    f__need_one_of := _, fd__need_one_of := _, F__need_one_of := fun_mk (st := s__need_one_of) l__need_one_of c__need_one_of k__need_one_of,
    g__need_one_of := PySem.W.mg_of X G a__need_one_of,
    b__need_one_of := (fun_mk (st := s__need_one_of) l__need_one_of c__need_one_of k__need_one_of).binds (ps := ["queue", "value"]) fun _ _ _ _ _ _ us hl => match us, hl with | [_, _], _ => rfl,
    f_Lpot := _, fd_Lpot := _, F_Lpot := fun_mk (st := s_Lpot) l_Lpot c_Lpot k_Lpot,
    g_Lpot := PySem.W.mg_of X G a_Lpot,
    b_Lpot := (fun_mk (st := s_Lpot) l_Lpot c_Lpot k_Lpot).binds (ps := ["_law_script", "_law_k"]) fun _ _ _ _ _ _ us hl => match us, hl with | [_, _], _ => rfl,
    f_Ldraw := _, fd_Ldraw := _, F_Ldraw := fun_mk (st := s_Ldraw) l_Ldraw c_Ldraw k_Ldraw,
    g_Ldraw := PySem.W.mg_of X G a_Ldraw,
    b_Ldraw := (fun_mk (st := s_Ldraw) l_Ldraw c_Ldraw k_Ldraw).binds (ps := ["_law_pot_here", "_law_size"]) fun _ _ _ _ _ _ us hl => match us, hl with | [_, _], _ => rfl,
    f_Lrows := _, fd_Lrows := _, F_Lrows := fun_mk (st := s_Lrows) l_Lrows c_Lrows k_Lrows,
    g_Lrows := PySem.W.mg_of X G a_Lrows,
    b_Lrows := (fun_mk (st := s_Lrows) l_Lrows c_Lrows k_Lrows).binds (ps := ["_law_pot_here"]) fun _ _ _ _ _ _ us hl => match us, hl with | [_], _ => rfl,
    f_Lplain := _, fd_Lplain := _, F_Lplain := fun_mk (st := s_Lplain) l_Lplain c_Lplain k_Lplain,
    g_Lplain := PySem.W.mg_of X G a_Lplain,
    b_Lplain := (fun_mk (st := s_Lplain) l_Lplain c_Lplain k_Lplain).binds (ps := ["_law_rows_here"]) fun _ _ _ _ _ _ us hl => match us, hl with | [_], _ => rfl,
    f_Ldone := _, fd_Ldone := _, F_Ldone := fun_mk (st := s_Ldone) l_Ldone c_Ldone k_Ldone,
    g_Ldone := PySem.W.mg_of X G a_Ldone,
    b_Ldone := (fun_mk (st := s_Ldone) l_Ldone c_Ldone k_Ldone).binds (ps := ["_law_queues", "_law_memory", "_law_rows_here", "_law_flight", "_law_at"]) fun _ _ _ _ _ _ us hl => match us, hl with | [_, _, _, _, _], _ => rfl,
    f_Lread_from := _, fd_Lread_from := _, F_Lread_from := fun_mk (st := s_Lread_from) l_Lread_from c_Lread_from k_Lread_from,
    g_Lread_from := PySem.W.mg_of X G a_Lread_from,
    b_Lread_from := (fun_mk (st := s_Lread_from) l_Lread_from c_Lread_from k_Lread_from).binds (ps := ["_law_queues", "_law_number"]) fun _ _ _ _ _ _ us hl => match us, hl with | [_, _], _ => rfl,
    f_Lright := _, fd_Lright := _, F_Lright := fun_mk (st := s_Lright) l_Lright c_Lright k_Lright,
    g_Lright := PySem.W.mg_of X G a_Lright,
    b_Lright := (fun_mk (st := s_Lright) l_Lright c_Lright k_Lright).binds (ps := ["_law_pot_here"]) fun _ _ _ _ _ _ us hl => match us, hl with | [_], _ => rfl,
    f_law := _, fd_law := _, F_law := fun_mk (st := s_law) l_law c_law k_law,
    g_law := PySem.W.mg_of X G a_law,
    b_law := (fun_mk (st := s_law) l_law c_law k_law).binds (ps := ["_law_script"]) fun _ _ _ _ _ _ us hl => match us, hl with | [_], _ => rfl,
    m_abs := PySem.W.mg_none_of X G z_abs,
    m_any := PySem.W.mg_none_of X G z_any,
    m_bool := PySem.W.mg_none_of X G z_bool,
    m_divmod := PySem.W.mg_none_of X G z_divmod,
    m_enumerate := PySem.W.mg_none_of X G z_enumerate,
    m_int := PySem.W.mg_none_of X G z_int,
    m_isinstance := PySem.W.mg_none_of X G z_isinstance,
    m_len := PySem.W.mg_none_of X G z_len,
    m_list := PySem.W.mg_none_of X G z_list,
    m_max := PySem.W.mg_none_of X G z_max,
    m_min := PySem.W.mg_none_of X G z_min,
    m_range := PySem.W.mg_none_of X G z_range,
    c_WORDS := ⟨_, PySem.W.mg_of X G x_WORDS⟩,
    c_PLACES := ⟨_, PySem.W.mg_of X G x_PLACES⟩,
    c__MOST_ROOMS := ⟨_, PySem.W.mg_of X G x__MOST_ROOMS⟩,
    aN := aN,
    gN := PySem.W.mg_of X G qN,
    lN := ⟨_, lN⟩ }
  exact ⟨_, fun s v => .of_eq rfl, fun base _ _ => ok_law (P := l.prog) (w := w) (base := base) T⟩
theorem walk {l : PySem.W.OpenLaw} {q : Program} {loose : List Str} {XP : (Str → Option Value) → Heap → Prop} {YP : World → Heap → Prop} {d : DefRec} {K : Params → PySem.W.Frag} (hn : l.most = some 63) (hdf : d.params.defaults = [])
    (hY : ∀ (w : World) (h : Heap), YP w h → (K w.params).In h)
    (F : ∀ (w : World) (mg : Str → Option Value) (fa : Addr) (h : Heap), (K w.params).In h → h.Ns mainGlobals mg → mg d.name = some (.ref fa) →
      ∃ fd : FuncData, (∀ (s : Shared) (u : Value), BindsTo s fd ⟨[u], []⟩ [("_law_script", u)]) ∧ ∀ base : Heap, (K w.params).In base → base.Ns mainGlobals mg → FnOk l.prog w (K w.params) mg base CX0 8 fa fd ["_law_script"] (sp_law (K w.params))) :
    PySem.W.WalkO q loose XP YP l.row.toRowW d [] (fun f vs => PySem.call f vs) :=
  L2.walk_of (n := 63) (k := 8) (x := "_law_script") (CX := fun _ => CX0) (sp := fun w => sp_law (K w.params)) hn (by decide) hdf ⟨rfl, by decide, by decide⟩ hY F (fun _ _ a ns hl _ hS => ⟨a, ns, rfl, hS, hl, fun _ => rfl⟩) fun _ _ _ _ _ z => z
end K77
open PySem PySem.W PyProof.Rows
set_option maxRecDepth 100000 in
set_option maxHeartbeats 0 in
theorem PySem.Challenge.cw_orderlycore_k77_whole_loads_get_what_the_holds : PySem.Challenge.rw_orderlycore_k77_whole_loads_get_what_the.Holds := by
  w_on; o_law; k_head; (case hw => w_witness2)
  k_fill
  refine K77.walk (l := PySem.Challenge.rw_orderlycore_k77_whole_loads_get_what_the) rfl rfl (fun w h Y => PySem.W.kIn_of Y) ?F
  case F =>
    intro w mg fa h KX G hmg
    refine' K77.all_mk KX G hmg ?aC_Queues ?pg_Queues ?hd_Queues ?po_Queues ?sa_Queues ?mk_Queues ?kc_Queues ?n_Queues_load_rooms ?n_Queues_store_rooms ?n_Queues_loads ?n_Queues_stores ?a_is_integer ?l_is_integer ?c_is_integer ?k_is_integer ?a_is_count ?l_is_count ?c_is_count ?k_is_count ?a_is_between ?l_is_between ?c_is_between ?k_is_between ?a_need_many ?l_need_many ?c_need_many ?k_need_many ?a_need_number ?l_need_number ?c_need_number ?k_need_number ?a_is_word ?l_is_word ?c_is_word ?k_is_word ?a_is_place ?l_is_place ?c_is_place ?k_is_place ?a_need_word ?l_need_word ?c_need_word ?k_need_word ?a_need_place ?l_need_place ?c_need_place ?k_need_place ?a_Queues_init ?i_Queues_init ?l_Queues_init ?c_Queues_init ?k_Queues_init ?a_Queues_can_load ?pg_Queues_can_load ?pt_Queues_can_load ?pq_Queues_can_load ?l_Queues_can_load ?c_Queues_can_load ?k_Queues_can_load ?a_Queues_can_store ?pg_Queues_can_store ?pt_Queues_can_store ?pq_Queues_can_store ?l_Queues_can_store ?c_Queues_can_store ?k_Queues_can_store ?a_Queues_load_entered ?i_Queues_load_entered ?l_Queues_load_entered ?c_Queues_load_entered ?k_Queues_load_entered ?a_Queues_store_entered ?i_Queues_store_entered ?l_Queues_store_entered ?c_Queues_store_entered ?k_Queues_store_entered ?a_Queues_known ?i_Queues_known ?l_Queues_known ?c_Queues_known ?k_Queues_known ?a_Queues_source ?i_Queues_source ?l_Queues_source ?c_Queues_source ?k_Queues_source ?a_Queues_read ?i_Queues_read ?l_Queues_read ?c_Queues_read ?k_Queues_read ?a_Queues_leave ?i_Queues_leave ?l_Queues_leave ?c_Queues_leave ?k_Queues_leave ?a_Queues_dropped ?i_Queues_dropped ?l_Queues_dropped ?c_Queues_dropped ?k_Queues_dropped ?a_Queues_loads ?i_Queues_loads ?l_Queues_loads ?c_Queues_loads ?k_Queues_loads ?a_Queues_stores ?i_Queues_stores ?l_Queues_stores ?c_Queues_stores ?k_Queues_stores ?a_Queuesall_numbers ?i_Queuesall_numbers ?l_Queuesall_numbers ?c_Queuesall_numbers ?k_Queuesall_numbers ?a_Queuesneed_above_all ?i_Queuesneed_above_all ?l_Queuesneed_above_all ?c_Queuesneed_above_all ?k_Queuesneed_above_all ?a_Queuesis_source ?i_Queuesis_source ?l_Queuesis_source ?c_Queuesis_source ?k_Queuesis_source ?a__is_one_of ?l__is_one_of ?c__is_one_of ?k__is_one_of ?a__need_one_of ?l__need_one_of ?c__need_one_of ?k__need_one_of ?a_Lpot ?l_Lpot ?c_Lpot ?k_Lpot ?a_Ldraw ?l_Ldraw ?c_Ldraw ?k_Ldraw ?a_Lrows ?l_Lrows ?c_Lrows ?k_Lrows ?a_Lplain ?l_Lplain ?c_Lplain ?k_Lplain ?a_Ldone ?l_Ldone ?c_Ldone ?k_Ldone ?a_Lread_from ?l_Lread_from ?c_Lread_from ?k_Lread_from ?a_Lright ?l_Lright ?c_Lright ?k_Lright ?a_law ?l_law ?c_law ?k_law ?z_abs ?z_any ?z_bool ?z_divmod ?z_enumerate ?z_int ?z_isinstance ?z_len ?z_list ?z_max ?z_min ?z_range ?x_WORDS ?x_PLACES ?x__MOST_ROOMS ?qN ?lN
    (case aC_Queues => k_is)
    (case pg_Queues => k_is)
    (case hd_Queues => k_is)
    (case po_Queues => k_is)
    (case sa_Queues => k_is)
    (case mk_Queues => k_is)
    (case kc_Queues => k_is)
    (case n_Queues_load_rooms => k_is)
    (case n_Queues_store_rooms => k_is)
    (case n_Queues_loads => k_is)
    (case n_Queues_stores => k_is)
    (case a_is_integer => k_is)
    (case l_is_integer => k_is)
    (case c_is_integer => k_is)
    (case k_is_integer => k_is)
    (case a_is_count => k_is)
    (case l_is_count => k_is)
    (case c_is_count => k_is)
    (case k_is_count => k_is)
    (case a_is_between => k_is)
    (case l_is_between => k_is)
    (case c_is_between => k_is)
    (case k_is_between => k_is)
    (case a_need_many => k_is)
    (case l_need_many => k_is)
    (case c_need_many => k_is)
    (case k_need_many => k_is)
    (case a_need_number => k_is)
    (case l_need_number => k_is)
    (case c_need_number => k_is)
    (case k_need_number => k_is)
    (case a_is_word => k_is)
    (case l_is_word => k_is)
    (case c_is_word => k_is)
    (case k_is_word => k_is)
    (case a_is_place => k_is)
    (case l_is_place => k_is)
    (case c_is_place => k_is)
    (case k_is_place => k_is)
    (case a_need_word => k_is)
    (case l_need_word => k_is)
    (case c_need_word => k_is)
    (case k_need_word => k_is)
    (case a_need_place => k_is)
    (case l_need_place => k_is)
    (case c_need_place => k_is)
    (case k_need_place => k_is)
    (case a_Queues_init => k_is)
    (case i_Queues_init => k_is)
    (case l_Queues_init => k_is)
    (case c_Queues_init => k_is)
    (case k_Queues_init => k_is)
    (case a_Queues_can_load => k_is)
    (case pg_Queues_can_load => k_is)
    (case pt_Queues_can_load => k_is)
    (case pq_Queues_can_load => k_is)
    (case l_Queues_can_load => k_is)
    (case c_Queues_can_load => k_is)
    (case k_Queues_can_load => k_is)
    (case a_Queues_can_store => k_is)
    (case pg_Queues_can_store => k_is)
    (case pt_Queues_can_store => k_is)
    (case pq_Queues_can_store => k_is)
    (case l_Queues_can_store => k_is)
    (case c_Queues_can_store => k_is)
    (case k_Queues_can_store => k_is)
    (case a_Queues_load_entered => k_is)
    (case i_Queues_load_entered => k_is)
    (case l_Queues_load_entered => k_is)
    (case c_Queues_load_entered => k_is)
    (case k_Queues_load_entered => k_is)
    (case a_Queues_store_entered => k_is)
    (case i_Queues_store_entered => k_is)
    (case l_Queues_store_entered => k_is)
    (case c_Queues_store_entered => k_is)
    (case k_Queues_store_entered => k_is)
    (case a_Queues_known => k_is)
    (case i_Queues_known => k_is)
    (case l_Queues_known => k_is)
    (case c_Queues_known => k_is)
    (case k_Queues_known => k_is)
    (case a_Queues_source => k_is)
    (case i_Queues_source => k_is)
    (case l_Queues_source => k_is)
    (case c_Queues_source => k_is)
    (case k_Queues_source => k_is)
    (case a_Queues_read => k_is)
    (case i_Queues_read => k_is)
    (case l_Queues_read => k_is)
    (case c_Queues_read => k_is)
    (case k_Queues_read => k_is)
    (case a_Queues_leave => k_is)
    (case i_Queues_leave => k_is)
    (case l_Queues_leave => k_is)
    (case c_Queues_leave => k_is)
    (case k_Queues_leave => k_is)
    (case a_Queues_dropped => k_is)
    (case i_Queues_dropped => k_is)
    (case l_Queues_dropped => k_is)
    (case c_Queues_dropped => k_is)
    (case k_Queues_dropped => k_is)
    (case a_Queues_loads => k_is)
    (case i_Queues_loads => k_is)
    (case l_Queues_loads => k_is)
    (case c_Queues_loads => k_is)
    (case k_Queues_loads => k_is)
    (case a_Queues_stores => k_is)
    (case i_Queues_stores => k_is)
    (case l_Queues_stores => k_is)
    (case c_Queues_stores => k_is)
    (case k_Queues_stores => k_is)
    (case a_Queuesall_numbers => k_is)
    (case i_Queuesall_numbers => k_is)
    (case l_Queuesall_numbers => k_is)
    (case c_Queuesall_numbers => k_is)
    (case k_Queuesall_numbers => k_is)
    (case a_Queuesneed_above_all => k_is)
    (case i_Queuesneed_above_all => k_is)
    (case l_Queuesneed_above_all => k_is)
    (case c_Queuesneed_above_all => k_is)
    (case k_Queuesneed_above_all => k_is)
    (case a_Queuesis_source => k_is)
    (case i_Queuesis_source => k_is)
    (case l_Queuesis_source => k_is)
    (case c_Queuesis_source => k_is)
    (case k_Queuesis_source => k_is)
    (case a__is_one_of => k_is)
    (case l__is_one_of => k_is)
    (case c__is_one_of => k_is)
    (case k__is_one_of => k_is)
    (case a__need_one_of => k_is)
    (case l__need_one_of => k_is)
    (case c__need_one_of => k_is)
    (case k__need_one_of => k_is)
    (case a_Lpot => k_is)
    (case l_Lpot => k_is)
    (case c_Lpot => k_is)
    (case k_Lpot => k_is)
    (case a_Ldraw => k_is)
    (case l_Ldraw => k_is)
    (case c_Ldraw => k_is)
    (case k_Ldraw => k_is)
    (case a_Lrows => k_is)
    (case l_Lrows => k_is)
    (case c_Lrows => k_is)
    (case k_Lrows => k_is)
    (case a_Lplain => k_is)
    (case l_Lplain => k_is)
    (case c_Lplain => k_is)
    (case k_Lplain => k_is)
    (case a_Ldone => k_is)
    (case l_Ldone => k_is)
    (case c_Ldone => k_is)
    (case k_Ldone => k_is)
    (case a_Lread_from => k_is)
    (case l_Lread_from => k_is)
    (case c_Lread_from => k_is)
    (case k_Lread_from => k_is)
    (case a_Lright => k_is)
    (case l_Lright => k_is)
    (case c_Lright => k_is)
    (case k_Lright => k_is)
    (case a_law => k_is)
    (case l_law => k_is)
    (case c_law => k_is)
    (case k_law => k_is)
    (case z_abs => k_is)
    (case z_any => k_is)
    (case z_bool => k_is)
    (case z_divmod => k_is)
    (case z_enumerate => k_is)
    (case z_int => k_is)
    (case z_isinstance => k_is)
    (case z_len => k_is)
    (case z_list => k_is)
    (case z_max => k_is)
    (case z_min => k_is)
    (case z_range => k_is)
    (case x_WORDS => k_is)
    (case x_PLACES => k_is)
    (case x__MOST_ROOMS => k_is)
    (case qN => k_is)
    (case lN => k_is)

