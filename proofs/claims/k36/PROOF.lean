import PyProof.Rows.All
import Wide.All
import OpenK.AllK
import Wide.FinOn
import HandS.ForMost
import HandS.IsInst
import HandS.Wide
import HandS.Style
import HandS.Walk
import HandS.Zip
import HandS.Flow
import HandS.ForExc
import HandS.ExcInit
import HandS.Property
import HandS.TupSets
import HandS.Ends
import HandS.OwnEq
import HandS.MakeKw
import HandS.MakeKwOnly
import HandS.SortInts
import HandS.More
import PySem.Challenge.RW_orderlycore_k36_whole_translations
set_option Elab.async false
set_option linter.all false
set_option maxRecDepth 100000
set_option maxHeartbeats 4000000
namespace Hx
open PySem PySem.Spec PyProof.Rows L2
/-! ### own rules -/
section
variable {X : Cx} {CX : CXT} {k : Nat} {f : Addr} {fd : FuncData} {ps ks : List Str} {sp : Sp} {E : XK} {x : Str} {p pos : Pos} {kws : List Keyword} {tk : TA} {g : List Value → List Value → List Value} {gV : List V → List V → List V}
theorem pe_callKA (F : FnOk X.prog X.w X.K X.mg X.base CX k f fd ps sp) (hr : Room k X.A) (hg : Gl X x) (hm : X.mg x = some (.ref f)) (hk : PySem.W.keepIn X.K (.ref f) = true) (hb : KBinds X.K fd ps ks g gV) (hx : Passes CX X E)
    (hkw : PK X kws tk) (hall : (backToKw pos (keywordEach kws X.env)).all (·.1.isSome) = true := by rfl) (hks : (backToKw pos (keywordEach kws X.env)).filterMap (·.1) = ks := by rfl)
    (hdb : (x == ("__debug__" : Str)) = false := by decide)
    (hpl : ((backTo pos (starEach [] X.env)).any (·.1) || (backToKw pos (keywordEach kws X.env)).any (·.1.isNone)) = false := by rfl) :
    PE X (.Call (.Name x p) [] kws pos) (tCallK sp gV E tNil tk) := by
  refine ⟨fun pins s σ H Q I h => ?_⟩
  refine wpAny_Call_Name_kw (ld_glob I hg hm ?_ hdb)
  refine PySem.W.callWith_KW0 (h₀ := X.base) I.ok.mod.kin hk hall ?_ hpl
  refine thn (hkw.run pos pins s σ H _ I h) fun ws s2 ⟨zs, H2, I2, rz, q2⟩ => ⟨I2.kIn, ?_⟩
  rw [hks]
  exact run_fnk F hr hb hx I2 .nil rz q2
/-- all by keywords, in the parameters' own order -/
def kwG {α : Type} (us ws : List α) : List α := match us with | [] => ws | _ => []
theorem kw_binds {K : PySem.W.Frag} {x qual : Str} {st : Stmt} {f : Addr} {fd : FuncData} {ps : List Str} (F : Fun K x qual st f fd) (h0 : 0 < ps.length)
    (h : ∀ (kV doc pm : Value) (an : Option Addr) (cdv ct : Value) (us : List Value), us.length = ps.length → bindArgs (PySem.W.fnOf x qual (defArgs st) (defBody st) (defScope st) .none kV doc pm an cdv ct) ⟨[], ps.zip us⟩ = pure (ps.zip us)) : KBinds K fd ps ps kwG kwG := by
  obtain ⟨oc, od, kV, doc, pm, an, cdv, ct, osl, rfl, lk, hcd⟩ := F.ex
  refine ⟨fun s us ws _ hl => ?_, fun {vs us zs ws} r1 r2 => ?_⟩
  · cases us with
    | nil => exact .of_eq (h kV doc pm an cdv ct ws hl)
    | cons a t => exact absurd hl (by simp [kwG]; omega)
  · cases r1 with
    | nil => exact r2
    | cons a t => exact .nil
theorem pg_pair {i j : Nat} {x y : Str} {p1 p2 : Pos} {kk : Nat} (hc : X.calm = true) (hN : X.N.Nodup) (hi : X.N[i]? = some x) (hj : X.N[j]? = some y) (hx : Loc X.env.scope x) (hy : Loc X.env.scope y)
    (hf : X.fn x = true ∨ X.env.scope.names.lookup x = some .local := by first | exact .inl rfl | exact .inr rfl | assumption) (hf2 : X.fn y = true ∨ X.env.scope.names.lookup y = some .local := by first | exact .inl rfl | exact .inr rfl | assumption)
    (hn : (assignEach [Expr.Name x p1, .Name y p2] X.env).length = 2 := by rfl) (hst : (assignEach [Expr.Name x p1, .Name y p2] X.env).findIdx? (·.1) = none := by rfl)
    (hs : (assignEach [Expr.Name x p1, .Name y p2] X.env).map (·.2) = assign (.Name x p1) X.env :: (assignEach [Expr.Name y p2] X.env).map (·.2) := by rfl)
    (hs2 : (assignEach [Expr.Name y p2] X.env).map (·.2) = assign (.Name y p2) X.env :: (assignEach [] X.env).map (·.2) := by rfl) :
    PG X (.Tuple [.Name x p1, .Name y p2] kk pos) (gTup X.K 2 (gCons (gName i) (gCons (gName j) gNil))) :=
  pg_tup hc (pgs_cons (pg_name hN hi hx hf) (pgs_cons (pg_name hN hj hy hf2) pgs_nil hs2) hs) hn hst
theorem pe_gint {i : Int} (hg : Gl X x) (hm : ∃ t, X.mg x = some (.int i t)) (hd : (x == ("__debug__" : Str)) = false := by decide) : PE X (.Name x pos) (tC (.int i)) := by
  obtain ⟨t, hm⟩ := hm
  exact pe_glob hg hm ⟨_, rfl⟩ hd
end
theorem call_int1i {X : Cx} : CallR X (.type "int") (fun xs H Q => ∃ i, xs = [.int i] ∧ Q (.int i) H) := fun pins s σ H xs us Q I r h => call_int1 pins s σ H xs us Q I r (.inl h)
theorem call_int1b {X : Cx} : CallR X (.type "int") (fun xs H Q => ∃ k, xs = [.bl k] ∧ Q (.int (if k then 1 else 0)) H) := fun pins s σ H xs us Q I r h => call_int1 pins s σ H xs us Q I r (.inr h)
theorem call_len_list {X : Cx} : CallR X (.builtin "len") (fun xs H Q => ∃ p ys, xs = [.ref p] ∧ SqL X.K H p ys ∧ Q (.int ys.length) H) := fun pins s σ H xs us Q I r ⟨p, ys, e, h, q⟩ => call_len_seq pins s σ H xs us Q I r ⟨p, ys, e, .inl h, q⟩
/-- a goal at which the walker of readings stops -/
structure Stop (p : Prop) : Prop where
  h : p
theorem stop_eq {p : Prop} : Stop p = p := propext ⟨fun q => q.h, fun q => ⟨q⟩⟩
def tForS (wi : TI) (g : TG) (tb : TS) : TS := fun D σ H => wi σ H fun J H1 => Stop (∃ W : Nat → Nat → L2.St → Hp → Prop, (∃ m, W 0 m σ H1) ∧ ∀ i m σ H, W i m σ H →
  (J.stop i H ∧ D.nx σ H) ∨ (J.go i H ∧ ∃ N : L2.St → Hp → Prop, (∀ σ' H', N σ' H' → ∃ m', m' < m ∧ W (i + 1) m' σ' H') ∧ ∀ x H', J.yld i H x H' → g x σ H' fun σ2 H2 => tb { D with nx := N, ct := N, bk := D.nx } σ2 H2))
theorem tForS_eq (wi : TI) (g : TG) (tb : TS) : tForS wi g tb = tFor wi g tb := by
  funext D σ H
  unfold tForS tFor
  simp only [stop_eq]
theorem ps_forS {X : Cx} {tg iter : Expr} {body : List Stmt} {wi : TI} {g : TG} {tb : TS} {pos : Pos} (hp : PassesOwn (model X.prog X.w) X.A X.env X.xe) (hc : X.calm = true) (hi : PI X tg iter wi) (hg : PG X tg g) (hb : PSs X body tb)
    (hs : ∀ x, foldedSetIterable iter X.env x = pure x := by intro _; rfl) : PS X (.For tg iter body [] pos) (tForS wi g tb) := by
  rw [tForS_eq]
  exact ps_for hp hc hi hg hb hs
/-! ### heaps -/
theorem same_upd {H : Hp} {p : Addr} {o : HO} (h : H p = none) : Same H (upd H p o) := fun b u e => by rw [upd_ne (ne_of_none e h)]; exact e
theorem Same.upd {H H1 : Hp} {p : Addr} {o : HO} (s : Same H H1) (h : H1 p = none) : Same H (L2.upd H1 p o) := L2.Same.trans s (same_upd h)
theorem Same.free' {H H1 : Hp} (s : Same H H1) {p : Addr} (h : H1 p = none) : H p = none := L2.Same.free s h
/-- all but a is as it was -/
def But (a : Addr) (H H' : Hp) : Prop := ∀ b o, b ≠ a → H b = some o → H' b = some o
theorem But.refl {a : Addr} (H : Hp) : But a H H := fun _ _ _ h => h
theorem But.trans {a : Addr} {H H1 H2 : Hp} (x : But a H H1) (y : But a H1 H2) : But a H H2 := fun b o n h => y b o n (x b o n h)
theorem But.same {a : Addr} {H H1 : Hp} (x : Same H H1) : But a H H1 := fun b o _ h => x b o h
theorem But.set {a : Addr} {H : Hp} {o : HO} : But a H (upd H a o) := fun b u n h => by rw [upd_ne n]; exact h
theorem But.new {a : Addr} {H H1 : Hp} {p : Addr} {o : HO} (x : But a H H1) (h : H1 p = none) : But a H (upd H1 p o) := x.trans (But.same (same_upd h))
theorem size_le {n : Nat} (h : n ≤ 10000) : n ≤ sizeLine := by rw [sizeLine_eq]; omega
theorem size_lt {n : Nat} (h : n ≤ 10000) : n < sizeLine := by rw [sizeLine_eq]; omega
theorem iteD {c A B : Prop} [Decidable c] (h1 : c → A) (h2 : ¬ c → B) : if decide c = true then A else B := by
  by_cases h : c
  · rw [decide_eq_true h]; exact iteT (h1 h)
  · rw [decide_eq_false h]; exact iteF (h2 h)
theorem iteN {c A B : Prop} [Decidable c] (h1 : ¬ c → A) (h2 : c → B) : if (!decide c) = true then A else B := by
  by_cases h : c
  · rw [decide_eq_true h]; exact iteF (h2 h)
  · rw [decide_eq_false h]; exact iteT (h1 h)
theorem qbl {Q : VK} {b c : Bool} {H : Hp} (k : Q (.bl b) H) (e : c = b) : Q (.bl c) H := e ▸ k
theorem qint {Q : VK} {i j : Int} {H : Hp} (k : Q (.int i) H) (e : j = i) : Q (.int j) H := e ▸ k
theorem same_set {H H1 : Hp} {p : Addr} {o : HO} (s : Same H H1) (n : H p = none) : Same H (upd H1 p o) := fun b u e => by rw [upd_ne (ne_of_none e n)]; exact s b u e
theorem old_upd {H : Hp} {p a : Addr} {o u : HO} (n : H p = none) (h : H a = some u) : upd H p o a = some u := same_upd n _ _ h
theorem SqL.new {K : PySem.W.Frag} {H : Hp} {p a : Addr} {o : HO} {xs : List V} (n : H p = none) (h : SqL K H a xs) : SqL K (upd H p o) a xs := L2.Same.seq (same_upd n) h
theorem tyl_new {K : PySem.W.Frag} {H : Hp} {p a : Addr} {o : HO} {xs : List V} (h : H a = some (.lst xs)) (n : H p = none) : tyV K "list" (.ref a) (upd H p o) := Or.inl ⟨rfl, xs, SqL.of (old_upd n h)⟩
theorem tyl_of {K : PySem.W.Frag} {H : Hp} {a : Addr} {xs : List V} (h : H a = some (.lst xs)) : tyV K "list" (.ref a) H := Or.inl ⟨rfl, xs, SqL.of h⟩
theorem same_at {H H' : Hp} {a : Addr} {u : HO} (s : Same H H') (h : H a = some u) : H' a = some u := s _ _ h
theorem same_trans' {H H1 H2 : Hp} (b : Same H1 H2) (a : Same H H1) : Same H H2 := L2.Same.trans a b
/-! ### comprehensions that keep what stood -/
theorem lc_mapS {K : PySem.W.Frag} {a : Addr} {xs : List V} {g : TG} {te : TE} {vs : List Nat} {σ : L2.St} {H1 : Hp} {D : Addr} {Qd : Hp → Prop} (ys : List V) (ha : SqL K H1 a xs) (hD : H1 D = none) (hl : xs.length = ys.length) (hz : xs.length ≤ 10000)
    (hs : ∀ (i : Nat) (x y : V) (H' : Hp) (Q : VK), xs[i]? = some x → ys[i]? = some y → Same H1 H' → (∀ H'', Same H' H'' → Q y H'') → g x (wipe σ vs) H' fun σ2 H2 => wipe σ2 vs = wipe σ vs ∧ te σ2 H2 Q)
    (hd : ∀ H', Same H1 H' → H' D = some (.lst ys) → Qd H') :
    ∃ W : Nat → Nat → Hp → Prop, (∃ m, W 0 m (upd H1 D (.lst []))) ∧ ∀ i m H, W i m H →
      ((Itl K a).stop i H ∧ Qd H) ∨ ((Itl K a).go i H ∧ ∃ Nx : Hp → Prop, (∀ H', Nx H' → ∃ m', m' < m ∧ W (i + 1) m' H') ∧ ∀ x H', (Itl K a).yld i H x H' → g x (wipe σ vs) H' fun σ2 H2 => wipe σ2 vs = wipe σ vs ∧ tYes σ2 H2 fun b H3 =>
        if b = true then te σ2 H3 fun y H4 => ∃ acc, H4 D = some (.lst acc) ∧ acc.length < sizeLine ∧ Nx (upd H4 D (.lst (acc ++ [y]))) else Nx H3) := by
  refine lc_list (xs := xs) (fun i H => Same H1 H ∧ H D = some (.lst (ys.take i))) ⟨same_upd hD, upd_same⟩ (fun i H _ h => L2.Same.seq h.1 ha) (fun i x H hx h => ?_) (fun H h => hd H h.1 (by rw [h.2, List.take_of_length_le (by omega)]))
  have hi : i < ys.length := by have := (List.getElem?_eq_some_iff.mp hx).1; omega
  refine hs i x ys[i] H _ hx (List.getElem?_eq_getElem hi) h.1 (fun H'' s => ?_)
  refine ⟨ys.take i, s _ _ h.2, size_lt (by simp; omega), same_set (L2.Same.trans h.1 s) hD, ?_⟩
  rw [upd_same, List.take_add_one, List.getElem?_eq_getElem hi]; rfl
theorem lc_mapZ {K : PySem.W.Frag} {a b : Addr} {xs zs : List V} {g : TG} {te : TE} {vs : List Nat} {σ : L2.St} {H1 : Hp} {D : Addr} {Qd : Hp → Prop} (ys : List V) (ha : SqL K H1 a xs) (hb : SqL K H1 b zs) (hD : H1 D = none) (hl : xs.length = ys.length) (hl2 : xs.length = zs.length) (hz : xs.length ≤ 10000)
    (hs : ∀ (i : Nat) (x z y : V) (T : Addr) (H' : Hp) (Q : VK), xs[i]? = some x → zs[i]? = some z → ys[i]? = some y → Same H1 H' → H' T = none → (∀ H'', Same (upd H' T (.tup [x, z])) H'' → Q y H'') → g (.ref T) (wipe σ vs) (upd H' T (.tup [x, z])) fun σ2 H2 => wipe σ2 vs = wipe σ vs ∧ te σ2 H2 Q)
    (hd : ∀ H', Same H1 H' → H' D = some (.lst ys) → Qd H') :
    ∃ W : Nat → Nat → Hp → Prop, (∃ m, W 0 m (upd H1 D (.lst []))) ∧ ∀ i m H, W i m H →
      ((Itz K a b).stop i H ∧ Qd H) ∨ ((Itz K a b).go i H ∧ ∃ Nx : Hp → Prop, (∀ H', Nx H' → ∃ m', m' < m ∧ W (i + 1) m' H') ∧ ∀ x H', (Itz K a b).yld i H x H' → g x (wipe σ vs) H' fun σ2 H2 => wipe σ2 vs = wipe σ vs ∧ tYes σ2 H2 fun b H3 =>
        if b = true then te σ2 H3 fun y H4 => ∃ acc, H4 D = some (.lst acc) ∧ acc.length < sizeLine ∧ Nx (upd H4 D (.lst (acc ++ [y]))) else Nx H3) := by
  refine lc_it (walk_zip (xs := xs) (ys := zs) (n := xs.length) (by omega)) (fun i H => Same H1 H ∧ H D = some (.lst (ys.take i))) ⟨same_upd hD, upd_same⟩ (fun i H _ h => ⟨L2.Same.seq h.1 ha, L2.Same.seq h.1 hb⟩) (fun i x H H' hi h y => ?_) (fun H h => hd H h.1 (by rw [h.2, List.take_of_length_le (by omega)]))
  obtain ⟨T, x', z', rfl, hT, rfl, hx, hz'⟩ := y
  have hi' : i < ys.length := by omega
  refine hs i x' z' ys[i] T H _ hx hz' (List.getElem?_eq_getElem hi') h.1 hT (fun H'' s => ?_)
  refine ⟨ys.take i, s _ _ (old_upd hT h.2), size_lt (by simp; omega), same_set (L2.Same.trans (Same.upd h.1 hT) s) hD, ?_⟩
  rw [upd_same, List.take_add_one, List.getElem?_eq_getElem hi']; rfl
/-! ### two lists of the same ints -/
theorem dp_ints {K : PySem.W.Frag} {H : Hp} : ∀ ns : List Int, DpAll K H (ns.map V.int) (ns.map PyData.int)
  | [] => .nil
  | n :: r => .cons (.int n) (dp_ints r)
theorem sh_ints (ns : List Int) : SeqAt.shaped (.list (ns.map PyData.int)) = true := PySem.W.shaped_ints ns
theorem eqv_ints (ns : List Int) : PyData.eqv (.list (ns.map PyData.int)) (.list (ns.map PyData.int)) = true := SeqAt.eqv_refl _ (SeqAt.canLay_of_shaped (sh_ints ns))
theorem op_eqLI {X : Cx} (hu : X.A.units + 64 < cLine) : OpR X (compareOp .Eq) (fun x y H Q => ∃ (p q : Addr) (ns : List Int), x = .ref p ∧ y = .ref q ∧ SqL X.K H p (ns.map V.int) ∧ SqL X.K H q (ns.map V.int) ∧ Q (.bl true) H) := by
  intro pins s σ H x y v u Q I rx ry ⟨p, q, ns, e1, e2, h1, h2, k⟩
  refine op_eqD hu pins s σ H x y v u Q I rx ry ⟨.list (ns.map PyData.int), .list (ns.map PyData.int), ?_, ?_, ?_, ?_, ?_⟩
  · rw [e1]; exact .lst h1 (dp_ints ns)
  · rw [e2]; exact .lst h2 (dp_ints ns)
  · exact sh_ints ns
  · exact sh_ints ns
  · rw [eqv_ints]; exact k
theorem op_neLI {X : Cx} (hu : X.A.units + 64 < cLine) : OpR X (compareOp .NotEq) (fun x y H Q => ∃ (p q : Addr) (ns : List Int), x = .ref p ∧ y = .ref q ∧ SqL X.K H p (ns.map V.int) ∧ SqL X.K H q (ns.map V.int) ∧ Q (.bl false) H) := by
  intro pins s σ H x y v u Q I rx ry ⟨p, q, ns, e1, e2, h1, h2, k⟩
  refine op_neD hu pins s σ H x y v u Q I rx ry ⟨.list (ns.map PyData.int), .list (ns.map PyData.int), ?_, ?_, ?_, ?_, ?_⟩
  · rw [e1]; exact .lst h1 (dp_ints ns)
  · rw [e2]; exact .lst h2 (dp_ints ns)
  · exact sh_ints ns
  · exact sh_ints ns
  · rw [eqv_ints]; exact k
/-! ### the pot -/
structure Pot (H : Hp) (a : Addr) : Prop where
  ex : ∃ x y : Int, H a = some (.lst [.int x, .int y]) ∧ 0 ≤ x ∧ 0 ≤ y ∧ y < 4294967296
theorem Pot.same {H H' : Hp} {a : Addr} (s : Same H H') (h : Pot H a) : Pot H' a := by
  obtain ⟨x, y, e, r⟩ := h
  exact ⟨x, y, s _ _ e, r⟩
theorem Pot.new {H : Hp} {a p : Addr} {o : HO} (h : Pot H a) (n : H p = none) : Pot (upd H p o) a := h.same (same_upd n)
theorem Pot.ne {H : Hp} {a p : Addr} (h : Pot H a) (n : H p = none) : p ≠ a := by
  obtain ⟨x, y, e, r⟩ := h
  exact fun z => by rw [z, e] at n; cases n
theorem mulw {i j : Int} {a b : Nat} (ha : i.natAbs < 2 ^ a) (hb : j.natAbs < 2 ^ b) (h0 : 0 < a := by decide) (h1 : 0 < b := by decide) (h : a + b ≤ 1000000 := by decide) : CMulW i j := wide_mul ha hb h0 h1 h
theorem mulw64 {i j : Int} (ha : i.natAbs < 18446744073709551616) (hb : j.natAbs < 18446744073709551616) : CMulW i j := wide_mul (a := 64) (b := 64) ha hb (by decide) (by decide) (by decide)
theorem pick_at {xs : List V} {d : Int} (h0 : 0 ≤ d) (h1 : d < xs.length) : ∃ v, atI xs d = some v ∧ v ∈ xs := by
  have hd : d.toNat < xs.length := by omega
  exact ⟨xs[d.toNat], at_of (j := d.toNat) (by omega) (List.getElem?_eq_getElem hd), List.getElem_mem hd⟩
theorem take_fold {α β : Type} {f : β → α → β} {z : β} {l : List α} {i : Nat} {x : α} (h : l[i]? = some x) : (l.take (i + 1)).foldl f z = f ((l.take i).foldl f z) x := by
  rw [List.take_add_one, h, Option.toList_some, List.foldl_append]; rfl
theorem int_get {ns : List Int} {i : Nat} {x : V} (h : (ns.map V.int)[i]? = some x) : ∃ z, x = .int z ∧ ns[i]? = some z := by
  rw [List.getElem?_map] at h
  obtain ⟨z, hz, e⟩ := Option.map_eq_some_iff.mp h
  exact ⟨z, e.symm, hz⟩
/-- called with the pot and how many: a number below that, and the pot is still one -/
def spDraw : Sp := fun vs H Q _ => ∃ (a : Addr) (n : Int), vs = [.ref a, .int n] ∧ Pot H a ∧ 0 < n ∧ n < 1073741824 ∧
  ∀ (d : Int) (H' : Hp), 0 ≤ d → d < n → Pot H' a → But a H H' → Q (.int d) H'
end Hx

set_option Elab.async false
set_option linter.all false
set_option maxRecDepth 100000
set_option maxHeartbeats 4000000
namespace Hx
open PySem PySem.Spec PyProof.Rows L2
/-! ### own rules for objects and errors -/
def kwM {α : Type} (us ws : List α) : List α := match us with | [x] => x :: ws | _ => []
theorem kw_bindsM {K : PySem.W.Frag} {x qual : Str} {st : Stmt} {f : Addr} {fd : FuncData} {ps : List Str} (F : Fun K x qual st f fd) (h0 : 0 < ps.length)
    (h : ∀ (kV doc pm : Value) (an : Option Addr) (cdv ct : Value) (u : Value) (us : List Value), us.length = ps.tail.length → bindArgs (PySem.W.fnOf x qual (defArgs st) (defBody st) (defScope st) .none kV doc pm an cdv ct) ⟨[u], ps.tail.zip us⟩ = pure (ps.zip (u :: us))) : KBinds K fd ps ps.tail kwM kwM := by
  obtain ⟨oc, od, kV, doc, pm, an, cdv, ct, osl, rfl, lk, hcd⟩ := F.ex
  refine ⟨fun s us ws _ hl => ?_, fun {vs us zs ws} r1 r2 => ?_⟩
  · match us, hl with
    | [], hl => exact absurd hl (by simp [kwM]; omega)
    | [u], hl => exact .of_eq (h kV doc pm an cdv ct u ws (by simp [kwM] at hl ⊢; omega))
    | _ :: _ :: _, hl => exact absurd hl (by simp [kwM]; omega)
  · cases r1 with
    | nil => exact .nil
    | cons a t =>
      cases t with
      | nil => exact .cons a r2
      | cons b t => exact .nil
section
variable {X : Cx} {CX : CXT} {k : Nat} {f C : Addr} {fd : FuncData} {ps ks : List Str} {sp : Sp} {E : L2.St → XK} {E1 : XK} {x m : Str} {p pos apos : Pos} {e o : Expr} {es : List Expr} {ta : TE} {t tk : TA} {kws : List Keyword} {g : List Value → List Value → List Value} {gV : List V → List V → List V}
def tMethA (C : Addr) (m : Str) (sp : Sp) (E : L2.St → XK) (ta : TE) (t : TA) : TE := fun σ H Q => ta σ H fun x H1 => ∃ a dx fs, x = .ref a ∧ H1 a = some (.ins C dx fs) ∧ fs.lookup m = none ∧ t σ H1 fun vs H2 => sp (x :: vs) H2 Q (E σ)
/-- o.m(e, ..) that may raise, within a try -/
theorem pe_methA {E : L2.St → XK} {pl : Sem Bool} (he : PE X o ta) (c : Cls X.K C) (hm : Meth X.K C m f) (F : FnOk X.prog X.w X.K X.mg X.base CX k f fd ps sp) (hr : Room k X.A) (hb : Binds X.K fd ps []) (hx : ∀ σ, PassesAt CX X σ (E σ)) (ha : PA X (e :: es) t)
    (hst : starEach (e :: es) X.env = (false, eval e X.env) :: starEach es X.env := by rfl) (hpl : (backTo pos (starEach es X.env)).any (·.1) = false := by rfl)
    (ht : eval (.Call (.Attribute o m apos) (e :: es) [] pos) X.env = (do
      let ov ← eval o X.env
      standAt apos.atName
      let (f, first) ← holding [ov] (getMethod ov m pl)
      callWith pos f first (backTo pos (starEach (e :: es) X.env)) (backToKw pos (keywordEach [] X.env))) := by rfl) :
    PE X (.Call (.Attribute o m apos) (e :: es) [] pos) (tMethA C m sp E ta t) := by
  refine ⟨fun pins s σ H Q I h => ?_⟩
  refine PySem.W.methodCall_KW (pl := pl) (thn (he.run pins s σ H _ I h) fun u s1 ⟨x, H1, I1, rx, a, dx, fs, ex, ea, l, q⟩ => ?_) ht
  subst ex
  obtain rfl : u = Value.ref a := rx
  refine getmeth_ok I1 ea c hm l ?_
  refine PySem.W.callWith_K (first := [.ref a]) (h₀ := X.base) I.ok.mod.kin hm.kp (thn (ha.run pos pins s1 σ H1 _ I1 q) fun us s2 ⟨vs, H2, I2, r, q2⟩ => ⟨I2.kIn, ?_⟩) hst hpl
  exact run_fnS (us := .ref a :: us) (vs := .ref a :: vs) F hr hb (hx σ) I2 (.cons rfl r) q2
def tMethK (C : Addr) (m : Str) (sp : Sp) (gV : List V → List V → List V) (E : XK) (ta : TE) (tk : TA) : TE := fun σ H Q => ta σ H fun x H1 => ∃ a dx fs, x = .ref a ∧ H1 a = some (.ins C dx fs) ∧ fs.lookup m = none ∧ tk σ H1 fun zs H2 => sp (gV [x] zs) H2 Q E
/-- o.m(k=e, ..) -/
theorem pe_methKA {pl : Sem Bool} (he : PE X o ta) (c : Cls X.K C) (hm : Meth X.K C m f) (F : FnOk X.prog X.w X.K X.mg X.base CX k f fd ps sp) (hr : Room k X.A) (hb : KBinds X.K fd ps ks g gV) (hx : Passes CX X E1)
    (hkw : PK X kws tk) (hall : (backToKw pos (keywordEach kws X.env)).all (·.1.isSome) = true := by rfl) (hks : (backToKw pos (keywordEach kws X.env)).filterMap (·.1) = ks := by rfl)
    (hpl : ((backTo pos (starEach [] X.env)).any (·.1) || (backToKw pos (keywordEach kws X.env)).any (·.1.isNone)) = false := by rfl)
    (ht : eval (.Call (.Attribute o m apos) [] kws pos) X.env = (do
      let ov ← eval o X.env
      standAt apos.atName
      let (f, first) ← holding [ov] (getMethod ov m pl)
      callWith pos f first (backTo pos (starEach [] X.env)) (backToKw pos (keywordEach kws X.env))) := by rfl) :
    PE X (.Call (.Attribute o m apos) [] kws pos) (tMethK C m sp gV E1 ta tk) := by
  refine ⟨fun pins s σ H Q I h => ?_⟩
  refine PySem.W.methodCall_KW (pl := pl) (thn (he.run pins s σ H _ I h) fun u s1 ⟨x, H1, I1, rx, a, dx, fs, ex, ea, l, q⟩ => ?_) ht
  subst ex
  obtain rfl : u = Value.ref a := rx
  refine getmeth_ok I1 ea c hm l ?_
  refine PySem.W.callWith_KW0 (first := [.ref a]) (h₀ := X.base) I.ok.mod.kin hm.kp hall ?_ hpl
  refine thn (hkw.run pos pins s1 σ H1 _ I1 q) fun ws s2 ⟨zs, H2, I2, rz, q2⟩ => ⟨I2.kIn, ?_⟩
  rw [hks]
  exact run_fnk (us := [.ref a]) (vs := [.ref a]) F hr hb hx I2 (.cons rfl .nil) rz q2
theorem PI.or {tg iter : Expr} {w1 w2 : TI} (h1 : PI X tg iter w1) (h2 : PI X tg iter w2) : PI X tg iter (fun σ H R => w1 σ H R ∨ w2 σ H R) := ⟨fun pins s σ H R I h => h.elim (h1.run pins s σ H R I) (h2.run pins s σ H R I)⟩
end
theorem exm_self {K : PySem.W.Frag} {S : Addr} (h1 : PySem.W.subIn K (.ref S) (.type "BaseException") = some true) (h2 : PySem.W.isClsIn K S = true) (h3 : PySem.W.typeIn K (.ref S) = some (.type "type")) (h4 : PySem.W.subIn K (.ref S) (.ref S) = some true) :
    PySem.W.exmOne K (.ref S) (.ref S) = some true := by
  have e1 : (PySem.W.subIn K (.ref S) (.type "BaseException") == some true) = true := by rw [h1] <;> rfl
  have e2 : ((PySem.W.clsIn K S).isSome && PySem.W.typeIn K (.ref S) == some (.type "type")) = true := by
    have h2' : (PySem.W.clsIn K S).isSome = true := h2
    rw [h2', h3] <;> rfl
  show (if (PySem.W.subIn K (.ref S) (.type "BaseException") == some true) = true then (if ((PySem.W.clsIn K S).isSome && PySem.W.typeIn K (.ref S) == some (.type "type")) = true then PySem.W.subIn K (.ref S) (.ref S) else none) else none) = some true
  rw [if_pos e1, if_pos e2]
  exact h4
def tStop (t : TS) : TS := fun D σ H => t { D with nx := fun σ H => Stop (D.nx σ H) } σ H
theorem ps_stop {X : Cx} {st : Stmt} {t : TS} (h : PS X st t) : PS X st (tStop t) := by
  have e : tStop t = t := by
    funext D σ H
    unfold tStop
    simp only [stop_eq]
  rw [e]
  exact h
theorem lc_mapT {K : PySem.W.Frag} {a : Addr} {xs : List V} {g : TG} {te : TE} {vs : List Nat} {σ : L2.St} {H1 : Hp} {D : Addr} {Qd : Hp → Prop} (ys : List V) (ha : SqT K H1 a xs) (hD : H1 D = none) (hl : xs.length = ys.length) (hz : xs.length ≤ 10000)
    (hs : ∀ (i : Nat) (x y : V) (H' : Hp) (Q : VK), xs[i]? = some x → ys[i]? = some y → Same H1 H' → (∀ H'', Same H' H'' → Q y H'') → g x (wipe σ vs) H' fun σ2 H2 => wipe σ2 vs = wipe σ vs ∧ te σ2 H2 Q)
    (hd : ∀ H', Same H1 H' → H' D = some (.lst ys) → Qd H') :
    ∃ W : Nat → Nat → Hp → Prop, (∃ m, W 0 m (upd H1 D (.lst []))) ∧ ∀ i m H, W i m H →
      ((Itt K a).stop i H ∧ Qd H) ∨ ((Itt K a).go i H ∧ ∃ Nx : Hp → Prop, (∀ H', Nx H' → ∃ m', m' < m ∧ W (i + 1) m' H') ∧ ∀ x H', (Itt K a).yld i H x H' → g x (wipe σ vs) H' fun σ2 H2 => wipe σ2 vs = wipe σ vs ∧ tYes σ2 H2 fun b H3 =>
        if b = true then te σ2 H3 fun y H4 => ∃ acc, H4 D = some (.lst acc) ∧ acc.length < sizeLine ∧ Nx (upd H4 D (.lst (acc ++ [y]))) else Nx H3) := by
  refine lc_tup (xs := xs) (fun i H => Same H1 H ∧ H D = some (.lst (ys.take i))) ⟨same_upd hD, upd_same⟩ (fun i H _ h => ha.elim (fun r => r.elim (fun e => .inl (.inl (h.1 _ _ e))) (fun ⟨o, e⟩ => .inl (.inr ⟨o, h.1 _ _ e⟩))) .inr) (fun i x H hx h => ?_) (fun H h => hd H h.1 (by rw [h.2, List.take_of_length_le (by omega)]))
  have hi : i < ys.length := by have := (List.getElem?_eq_some_iff.mp hx).1; omega
  refine hs i x ys[i] H _ hx (List.getElem?_eq_getElem hi) h.1 (fun H'' s => ?_)
  refine ⟨ys.take i, s _ _ h.2, size_lt (by simp; omega), same_set (L2.Same.trans h.1 s) hD, ?_⟩
  rw [upd_same, List.take_add_one, List.getElem?_eq_getElem hi]; rfl
/-! ### two things of the same data -/
def FlatD (n : Nat) (d : PyData) : Prop := d.canLay0 = true ∧ d.depth ≤ n
theorem flat_all {n : Nat} : ∀ ds : List PyData, (∀ d ∈ ds, FlatD n d) → PyData.canLayAll0 ds = true ∧ PyData.depthAll ds ≤ n
  | [], _ => by simp [PyData.canLayAll0, PyData.depthAll]
  | d :: r, h => by
    have i := flat_all r fun x hx => h x (List.mem_cons_of_mem _ hx)
    have j := h d List.mem_cons_self
    unfold FlatD at j
    simp only [PyData.canLayAll0, PyData.depthAll, j.1, i.1, Bool.and_self, true_and]
    omega
theorem flat_list {n : Nat} {ds : List PyData} (h : ∀ d ∈ ds, FlatD n d) : FlatD (n + 1) (.list ds) := by
  have i := flat_all ds h
  exact ⟨by simp only [PyData.canLay0]; exact i.1, by simp only [PyData.depth]; omega⟩
theorem flat_tup {n : Nat} {ds : List PyData} (h : ∀ d ∈ ds, FlatD n d) : FlatD (n + 1) (.tuple ds) := by
  have i := flat_all ds h
  exact ⟨by simp only [PyData.canLay0]; exact i.1, by simp only [PyData.depth]; omega⟩
theorem flat_int (n : Nat) (i : Int) : FlatD n (.int i) := ⟨by simp [PyData.canLay0], by simp [PyData.depth]⟩
theorem flat_sh {n : Nat} {d : PyData} (h : FlatD n d) (hn : n ≤ 64 := by decide) : SeqAt.shaped d = true := by
  show (PyData.canLay0 d && decide (PyData.depth d ≤ 64)) = true
  rw [Bool.and_eq_true]
  exact ⟨h.1, decide_eq_true (Nat.le_trans h.2 hn)⟩
theorem op_eqS {X : Cx} (hu : X.A.units + 64 < cLine) : OpR X (compareOp .Eq) (fun x y H Q => ∃ d, Dp X.K H x d ∧ Dp X.K H y d ∧ SeqAt.shaped d = true ∧ Q (.bl true) H) := by
  intro pins s σ H x y v u Q I rx ry ⟨d, h1, h2, hs, k⟩
  refine op_eqD hu pins s σ H x y v u Q I rx ry ⟨d, d, h1, h2, hs, hs, ?_⟩
  rw [SeqAt.eqv_refl d (SeqAt.canLay_of_shaped hs)]; exact k
theorem op_neS {X : Cx} (hu : X.A.units + 64 < cLine) : OpR X (compareOp .NotEq) (fun x y H Q => ∃ d, Dp X.K H x d ∧ Dp X.K H y d ∧ SeqAt.shaped d = true ∧ Q (.bl false) H) := by
  intro pins s σ H x y v u Q I rx ry ⟨d, h1, h2, hs, k⟩
  refine op_neD hu pins s σ H x y v u Q I rx ry ⟨d, d, h1, h2, hs, hs, ?_⟩
  rw [SeqAt.eqv_refl d (SeqAt.canLay_of_shaped hs)]; exact k
/-- the only error's __init__: self.value = value -/
def spEI (C : Addr) : Sp := fun vs H Q _ => ∃ (a : Addr) (v : V), vs = [.ref a, v] ∧ H a = some (exo a C none) ∧ ∀ dx, H dx = none → dx ≠ a → Q .non (upd (upd H dx (exd dx [("value", v)])) a (exo a C (some dx)))
theorem ei_same {H : Hp} {a dx C : Addr} {fs : List (Str × V)} {o u : HO} (ha : H a = none) (hd : upd H a o dx = none) (ne : dx ≠ a) :
    Same H (upd (del (upd (upd (upd H a o) dx u) a (exo a C (some dx))) a) dx (.xd fs)) := fun b v e => by
  have n1 : b ≠ a := ne_of_none e ha
  have n2 : b ≠ dx := by
    intro z
    rw [z] at e
    rw [upd_ne ne] at hd
    rw [hd] at e
    cases e
  rw [upd_ne n2, del_ne n1, upd_ne n1, upd_ne n2, upd_ne n1]
  exact e
end Hx

set_option Elab.async false
set_option linter.all false
set_option maxRecDepth 100000
set_option maxHeartbeats 4000000
namespace Hx
open PySem PySem.Spec PyProof.Rows L2
/-! ### promises of defs under which no repr is under way -/
/-- as FnOk, for calls around which nothing is being written out -/
structure FnG (P : Program) (w : World) (K : PySem.W.Frag) (mg : Str → Option Value) (base : Heap) (k : Nat) (f : Addr) (fd : FuncData) (ps : List Str) (sp : Sp) : Prop where
  len : ∀ vs H Q E, sp vs H Q E → vs.length = ps.length
  run : ∀ (A : Around) (outer : List Env) (s : Shared) (H : Hp) (args : Args) (us : List Value) (vs : List V) (Q : VK) (E : XK), A.guards = some [] → Room k A → Env0 P w K mg base A outer s H → BindsTo s fd args (ps.zip us) → Vals vs us → sp vs H Q E →
    codeAny (model P w) A (.call (.ref f) args) (CR CX0 outer P w H s Q E) s
theorem FnG.mono {P : Program} {w : World} {K : PySem.W.Frag} {mg : Str → Option Value} {base : Heap} {j k : Nat} {f : Addr} {fd : FuncData} {ps : List Str} {sp : Sp} (F : FnG P w K mg base j f fd ps sp) (h : j ≤ k) : FnG P w K mg base k f fd ps sp :=
  ⟨F.len, fun A o s H a us vs Q E g r => F.run A o s H a us vs Q E g (r.mono h)⟩
theorem fnG {P : Program} {w : World} {K : PySem.W.Frag} {mg : Str → Option Value} {base : Heap} {x qual : Str} {st : Stmt} {f : Addr} {fd : FuncData} {N ps : List Str} {k : Nat} {sp : Sp} (F : Fun K x qual st f fd) (S : FnScope N ps (defScope st)) (len : ∀ vs H Q E, sp vs H Q E → vs.length = ps.length)
    (hbody : ∀ (cdv : Value) (A : Around) (outer : List Env) (s : Shared) (H : Hp) (vs : List V) (Q : VK) (E : XK), Room k (A.deeper (envOfC qual (defScope st) s.heap.objs.size f cdv)) → (A.deeper (envOfC qual (defScope st) s.heap.objs.size f cdv)).guards = some [] → sp vs H Q E →
      ∃ t, PSs (cxOf CX0 P w K mg base N qual (defScope st) f cdv A outer s H E).nox (defBody st) t ∧ t { nx := fun _ H' => Q .non H', rt := Q } (start N vs) H) : FnG P w K mg base (k + 1) f fd ps sp := by
  obtain ⟨oc, od, kV, doc, pm, an, cdv, ct, osl, rfl, lk, hcd⟩ := F.ex
  constructor
  · exact len
  intro A outer s H args us vs Q E hg hr e0 hb r hsp
  have old := fun b o e => (e0.bs b o e).1
  have KX := e0.mod.kin.keeps old
  have lim := e0.mod.nolimit.keeps old
  apply codeAny_call_function hr.depth (KX _ _ lk) rfl S.co S.gen rfl (PySem.W.codeRec_of KX hcd)
  apply hb
  apply wpAny_newFunctionEnv_cells S.kind
  · intro y hy
    exact (S.par y.1 (List.of_mem_zip hy).1).imp id fun q => ⟨q, PySem.W.cellsFrom_some _ _ _ (.inl q)⟩
  intro env he s1 x
  subst he
  refine ⟨lim.keeps x.toInCall.keep, codeAny_func ?_⟩
  obtain ⟨t, ht, hq⟩ := hbody cdv A outer s H vs Q E (hr.deeper _) hg hsp
  have I := inv_start (CX := CX0) (E := E) (base := base) S hr.hd e0 (len _ _ _ _ hsp) r x
  refine wpAny_mono (ht.nox.run [] s1 _ H _ I hq) (fun fl s' hs => ?_) fun e s' hs => hs
  match fl, hs with
  | .ret u, ⟨v, _, H', J, rv, q⟩ => exact ⟨v, H', J.os, J.bare, J.base, J.hok, rv, q⟩
  | .next, ⟨_, H', J, q⟩ => exact ⟨V.non, H', J.os, J.bare, J.base, J.hok, rfl, q⟩
  | .brk, ⟨_, _, _, q⟩ => exact q.elim
  | .cont, ⟨_, _, _, q⟩ => exact q.elim
section
variable {X : Cx} {k : Nat} {f : Addr} {fd : FuncData} {ps : List Str} {sp : Sp} {E : XK} {x : Str} {p pos : Pos} {e : Expr} {es : List Expr} {t : TA}
/-- f(e, ..) of such a def -/
theorem pe_callG (hu : X.A.guards = some []) (F : FnG X.prog X.w X.K X.mg X.base k f fd ps sp) (hr : Room k X.A) (hg : Gl X x) (hm : X.mg x = some (.ref f)) (hk : PySem.W.keepIn X.K (.ref f) = true) (hb : Binds X.K fd ps [])
    (ha : PA X (e :: es) t) (hdb : (x == ("__debug__" : Str)) = false := by decide) (he : starEach (e :: es) X.env = (false, eval e X.env) :: starEach es X.env := by rfl) (hpl : (backTo pos (starEach es X.env)).any (·.1) = false := by rfl) :
    PE X (.Call (.Name x p) (e :: es) [] pos) (tCall sp [] E t) := by
  constructor
  intro pins s σ H Q I h
  apply wpAny_Call_Name_kw (ld_glob I hg hm ?_ hdb)
  refine PySem.W.callWith_K (h₀ := X.base) I.ok.mod.kin hk (thn (ha.run pos pins s σ H _ I h) fun us s1 ⟨vs, H1, I1, r, q⟩ => ⟨I1.kIn, ?_⟩) he hpl
  have q : sp (vs ++ []) H1 Q E := q
  rw [List.append_nil] at q
  have hl : us.length = ps.length := by rw [← r.length]; exact F.len _ _ _ _ q
  have b := hb s1 us I1.kIn (by rw [List.append_nil]; exact hl)
  rw [List.append_nil] at b
  refine wpAny_call (codeAny_mono (F.run X.A X.stack s1 H1 ⟨us, []⟩ us vs Q E hu hr I1.env0 b r q) fun r s' hq => ?_)
  match r, hq with
  | .ok (.ret u), hq => exact I1.after hq
  | .error e, hq => exact False.elim hq
  | .ok .next, hq => exact False.elim hq
  | .ok .brk, hq => exact False.elim hq
  | .ok .cont, hq => exact False.elim hq
/-- repr of a list, a tuple, of things that show -/
theorem call_reprG (hg : X.A.guards = some []) (hr : Room 0 X.A) : CallR X (.builtin "repr") (fun xs H Q => ∃ (a : Addr) (d : PyData), xs = [.ref a] ∧ Dp X.K H (.ref a) d ∧ d.showable = true ∧ d.hasDict = false ∧ d.depth ≤ 64 ∧ d.shown.length ≤ sizeLine ∧ Q (.str d.shown) H) := by
  intro pins s σ H xs us Q I r h
  obtain ⟨a, d, rfl, hd, hs, hn, hp, hz, q⟩ := h
  rw [Vals.ref1 r]
  obtain ⟨as, hR⟩ := Dp.reads I d _ (.ref a) hd rfl
  have hu := hr.un
  exact repr_of_reads' hR hs (fun z => by rw [hn] at z; cases z) hg (by omega) (fun _ _ e => e) (fun h' u tk hk => ⟨.str _, H, I.kept hk, ⟨_, rfl⟩, q⟩) hz
end
theorem call_repr_bl {X : Cx} : CallR X (.builtin "repr") (fun xs H Q => ∃ b : Bool, xs = [.bl b] ∧ Q (.str (if b then "True" else "False")) H) := by
  intro pins s σ H xs us Q I r h
  obtain ⟨b, rfl, q⟩ := h
  cases r with
  | cons ru rn =>
    cases rn
    cases ru
    exact PySem.P.repr_of_bool ⟨.str _, H, I.tok _, ⟨_, rfl⟩, q⟩
/-! ### the head's call of such a law -/
theorem law_callG {P : Program} {w : World} {K : PySem.W.Frag} {mg mb : Str → Option Value} {k : Nat} {fa a : Addr} {fd : FuncData} {x : Str} {sp : Sp} {s : Shared} {vs : List Value} {ns : List Int}
    (KX : K.In s.heap) (hns : s.heap.Ns mainGlobals mg) (hb : s.heap.Ns builtinsNs mb) (hbb : ∀ x : Str, x ≠ "__name__" → mb x = bootBuiltins x) (hlim : s.heap.NoLimit) (hg : s.gens = #[])
    (ha : s.heap.get? a = some { cls := .type "list", data := .seq vs.toArray }) (hi : IntsAre vs ns) (hl : ns.length ≤ sizeLine) (hr : Room k callerA)
    (F : ∀ base : Heap, K.In base → base.Ns mainGlobals mg → FnG P w K mg base k fa fd [x] sp) (hbind : ∀ (s : Shared) (u : Value), BindsTo s fd ⟨[u], []⟩ [(x, u)])
    (hsp : ∀ H : Hp, Only H → SqL K H a (ns.map V.int) → sp [.ref a] H (fun v _ => v = .bl true) fun _ _ _ => False) :
    codeAny (model P w) callerA (.call (.ref fa) ⟨[.ref a], []⟩) (fun r s' => r = .ok (.ret (.bool true)) ∧ OldK s.heap s'.heap ∧ s'.os = s.os ∧ AllBare s'.gens) s := by
  let fz : HO := .frz { cls := .type "list", data := .seq vs.toArray } (.lst (ns.map V.int))
  let H : Hp := fun b => if b = a ∧ K.lookup a = none then some fz else none
  have rv := vals_ints hi
  have hH : ∀ {b : Addr} {u : HO}, H b = some u → b = a ∧ K.lookup a = none ∧ u = fz := fun {b u} z => by
    by_cases q : b = a ∧ K.lookup a = none
    · have z' := (if_pos q).symm.trans z
      exact ⟨q.1, q.2, (Option.some.inj z').symm⟩
    · have z' := (if_neg q).symm.trans z
      cases z'
  have hO : Only H := fun b => by
    by_cases q : b = a ∧ K.lookup a = none
    · exact .inr ⟨_, _, if_pos q⟩
    · exact .inl (if_neg q)
  have hok : HOk P w H s.heap := fun b u z => by
    obtain ⟨rfl, _, rfl⟩ := hH z
    exact ⟨ha, by rw [List.length_map]; exact hl, vs, _, rv, ha⟩
  have hS : SqL K H a (ns.map V.int) := by
    cases hk : K.lookup a with
    | some o =>
      have e := KX a o hk
      rw [ha] at e
      cases e
      exact .inr ⟨_, vs.toArray, _, hk, rfl, rfl, rfl, by rw [List.size_toArray, hi.length]; exact hl, by simpa using rv⟩
    | none => exact .inl (.inr ⟨_, if_pos ⟨rfl, hk⟩⟩)
  have hid : ∀ {b : Addr} {o : Obj}, s.heap.get? b = some o → (b = a → K.lookup a = none → False) → (hidT s.heap H).get? b = some o := fun {b o} e n => hidT_get e (by
    cases q : H b with
    | none => rfl
    | some u => exact (n (hH q).1 (hH q).2.1).elim)
  have nsK : ∀ {b : Addr} {m : Str → Option Value}, s.heap.Ns b m → (hidT s.heap H).Ns b m := fun {b m} ⟨o, es, ep, e, d, r⟩ => ⟨o, es, ep, hid e (fun z _ => by
    subst z
    rw [ha] at e
    cases e
    have d' : Data.seq vs.toArray _ = Data.dict es ep := d
    cases d'), d, r⟩
  have hKb : K.In (hidT s.heap H) := fun b o e => hid (KX b o e) fun z n => by
    subst z
    rw [n] at e
    cases e
  have e0 : Env0 P w K mg (hidT s.heap H) callerA [] s H := ⟨rfl, ⟨hKb, nsK hns, ⟨mb, nsK hb, hbb⟩, hlim.elim fun mc h => ⟨mc, nsK h.1, h.2⟩⟩, fun b o e => of_hidT e, Nat.le_of_eq (hidT_size _ _), trivial, fun b hb => absurd hb List.not_mem_nil, hok, .of_eq hg⟩
  refine codeAny_mono ((F _ hKb (nsK hns)).run callerA [] s H ⟨[.ref a], []⟩ [.ref a] [.ref a] _ _ rfl hr e0 (hbind s (.ref a)) (.cons rfl .nil) (hsp H hO hS)) fun r s' h => ?_
  match r, h with
  | .error e, h => exact h.elim
  | .ok .next, h => exact False.elim h
  | .ok .brk, h => exact False.elim h
  | .ok .cont, h => exact False.elim h
  | .ok (.ret u), ⟨v, H', os, bare, un, hok', r', q⟩ =>
    obtain rfl : v = .bl true := q
    obtain rfl : u = Value.bool true := r'
    refine ⟨rfl, OldK.of_keep fun b o e => ?_, os, bare⟩
    cases q : H b with
    | none => exact un.keep b o e q (fun z => List.not_mem_nil z) List.not_mem_nil
    | some u =>
      obtain ⟨rfl, _, rfl⟩ := hH q
      obtain ⟨e1, _⟩ := hok _ _ q
      obtain ⟨e2, _⟩ := hok' _ _ (un.frzs _ _ _ q)
      rw [e] at e1
      cases e1
      exact e2
theorem walk_ofG {l : PySem.W.OpenLaw} {n k : Nat} {q : Program} {loose : List Str} {XP : (Str → Option Value) → Heap → Prop} {YP : World → Heap → Prop} {d : DefRec} {K : Params → PySem.W.Frag} {sp : World → Sp} {x : Str}
    (hn : l.most = some n) (hn2 : n ≤ sizeLine) (hdf : d.params.defaults = []) (hr : Room k callerA)
    (hY : ∀ (w : World) (h : Heap), YP w h → (K w.params).In h)
    (F : ∀ (w : World) (mg : Str → Option Value) (fa : Addr) (h : Heap), (K w.params).In h → h.Ns mainGlobals mg → mg d.name = some (.ref fa) →
      ∃ fd : FuncData, (∀ (s : Shared) (u : Value), BindsTo s fd ⟨[u], []⟩ [(x, u)]) ∧ ∀ base : Heap, (K w.params).In base → base.Ns mainGlobals mg → FnG l.prog w (K w.params) mg base k fa fd [x] (sp w))
    (hsp : ∀ (w : World) (H : Hp) (a : Addr) (ns : List Int), ns.length ≤ n → Only H → SqL (K w.params) H a (ns.map V.int) → sp w [.ref a] H (fun v _ => v = .bl true) fun _ _ _ => False) :
    PySem.W.WalkO q loose XP YP l.row.toRowW d [] (fun f vs => PySem.call f vs) := by
  apply Att.attach_call hn hdf
  intro w s₀ s₁ mg mb fa o pm cd doc a vs ns G Y ho hd hcd hmg hobj hints hlen hg
  obtain ⟨fd, hb, hF⟩ := F w mg fa _ (hY w _ Y) G.T.g hmg
  exact law_callG (hY w _ Y) G.T.g G.T.b G.T.builtins G.T.nolimit hg hobj hints (Nat.le_trans hlen hn2) hr hF hb fun H hO hS => hsp w H a ns hlen hO hS
end Hx

set_option Elab.async false
set_option linter.all false
set_option maxRecDepth 100000
set_option maxHeartbeats 4000000
namespace Hx
open PySem PySem.Spec PyProof.Rows L2
/-- x == y by the class's own ==, whatever it answers -/
theorem op_eqOwn {X : Cx} {n : Nat} {C f : Addr} {fd : FuncData} {ps : List Str} {sp : Sp} (F : FnOk X.prog X.w X.K X.mg X.base CX0 n f fd ps sp) (hr : Room n X.A)
    (hs : PySem.W.findIn X.K (.ref C) "__eq__" = some (some (.ref f))) (hf : PySem.W.isFn X.K (.ref f) = true) (hb : Binds X.K fd ps []) :
    OpR X (compareOp .Eq) (fun x y H Q => ∃ a b dx dy fs gs, x = .ref a ∧ y = .ref b ∧ H a = some (.ins C dx fs) ∧ H b = some (.ins C dy gs) ∧ sp [.ref a, .ref b] H (fun v H' => ∃ c, v = .bl c ∧ Q (.bl c) H') (fun _ _ _ => False)) := by
  intro pins s σ H x y v u Q I rx ry h
  obtain ⟨a, b, dx, dy, fs, gs, rfl, rfl, ha, hb', hsp⟩ := h
  cases rx
  cases ry
  obtain ⟨mA, J, _⟩ := ins_get I.hok ha
  obtain ⟨mB, J', _⟩ := ins_get I.hok hb'
  obtain ⟨od, J, _⟩ := J.look
  obtain ⟨od', J', _⟩ := J'.look
  obtain ⟨m, hF⟩ := I.fr
  have hu := hr.un
  refine PySem.W.cmp_K (op := .Eq) (tb := .ref C) (by omega) hF I.ok.mod.kin J J'.type (by simp [PySem.W.notFirst]) hs hf ?_
  have hl := F.len _ _ _ _ hsp
  have r2 : Vals [V.ref a, V.ref b] [Value.ref a, Value.ref b] := .cons rfl (.cons rfl .nil)
  have hB : BindsTo s fd ⟨[.ref a, .ref b], []⟩ (ps.zip [.ref a, .ref b]) := by
    have := hb s [.ref a, .ref b] I.kIn (by simpa using hl)
    simpa using this
  refine wpAny_call (codeAny_mono (F.run X.A X.stack s H ⟨[.ref a, .ref b], []⟩ [.ref a, .ref b] [.ref a, .ref b] _ _ hr I.env0 hB r2 hsp) fun r s' hq => ?_)
  match r, hq with
  | .ok (.ret w), hq =>
    obtain ⟨z, H', I', rz, c, rfl, q⟩ := I.after hq
    cases rz
    exact ⟨.bl c, H', I', rfl, q⟩
  | .error e, hq => exact False.elim hq
  | .ok .next, hq => exact False.elim hq
  | .ok .brk, hq => exact False.elim hq
  | .ok .cont, hq => exact False.elim hq
/-! ### how long the text of whole numbers is -/
theorem text_le : ∀ (ts : List Str) (k : Nat) (acc : Str), (textFrom k acc ts).length ≤ acc.length + piled ts
  | [], _, acc => Nat.le_add_right _ _
  | t :: r, k, acc => by
    have ih := text_le r (k + 1) (acc ++ (if k > 0 then ", " else "" : String) ++ t)
    have e : (acc ++ (if k > 0 then ", " else "" : String) ++ t).length ≤ acc.length + 2 + t.length := by
      rw [strLen_append, strLen_append]
      split
      · exact Nat.le_refl _
      · exact Nat.add_le_add_right (Nat.add_le_add_left (Nat.zero_le 2) _) _
    show (textFrom (k + 1) _ r).length ≤ _
    rw [piled_cons]; omega
theorem piled_words : ∀ ns : List Int, (∀ n ∈ ns, 0 ≤ n ∧ n < 10 ^ 20) → piled (PyData.shownAll (ns.map PyData.int)) ≤ 22 * ns.length
  | [], _ => Nat.le_refl _
  | n :: r, h => by
    have i := piled_words r fun x hx => h x (List.mem_cons_of_mem _ hx)
    have j := toString_length_le (h n List.mem_cons_self).1 (by decide : 0 < 20) (h n List.mem_cons_self).2
    rw [List.map_cons, PyData.shownAll, piled_cons, PyData.shown, List.length_cons]
    omega
theorem words_dict : ∀ ns : List Int, PyData.hasDictAll (ns.map PyData.int) = false
  | [] => rfl
  | n :: r => by rw [List.map_cons, PyData.hasDictAll, PyData.hasDict, words_dict r] <;> rfl
theorem log_small {n : Int} (h : 0 ≤ n ∧ n < 10 ^ 20) : n.natAbs.log2 < 1920 := by
  by_cases z : n.natAbs = 0
  · rw [z]; decide
  · refine Nat.lt_trans (m := 67) ?_ (by decide)
    rw [Nat.log2_lt z]
    omega
theorem words_show : ∀ ns : List Int, (∀ n ∈ ns, 0 ≤ n ∧ n < 10 ^ 20) → PyData.showableAll (ns.map PyData.int) = true
  | [], _ => rfl
  | n :: r, h => by
    rw [List.map_cons, PyData.showableAll, PyData.showable, words_show r fun x hx => h x (List.mem_cons_of_mem _ hx), decide_eq_true (log_small (h n List.mem_cons_self))] <;> rfl
theorem words_depth : ∀ ns : List Int, PyData.depthAll (ns.map PyData.int) = 0
  | [] => by simp [PyData.depthAll]
  | n :: r => by simp [PyData.depthAll, PyData.depth, words_depth r]
/-- a list of words: all that repr asks -/
theorem shown_words {ns : List Int} (h : ∀ n ∈ ns, 0 ≤ n ∧ n < 10 ^ 20) (hl : ns.length ≤ 400) : (PyData.list (ns.map PyData.int)).showable = true ∧ (PyData.list (ns.map PyData.int)).hasDict = false ∧ (PyData.list (ns.map PyData.int)).depth ≤ 64 ∧ (PyData.list (ns.map PyData.int)).shown.length ≤ sizeLine := by
  refine ⟨by rw [PyData.showable]; exact words_show ns h, by rw [PyData.hasDict]; exact words_dict ns, by rw [PyData.depth, words_depth]; decide, ?_⟩
  rw [PyData.shown]
  have a := text_le (PyData.shownAll (ns.map PyData.int)) 0 "["
  have b := piled_words ns h
  show (textFrom 0 "[" _ ++ "]").length ≤ _
  rw [strLen_append, sizeLine_eq]
  have e : (("[" : String) : Str).length = 1 := rfl
  have e2 : (("]" : String) : Str).length = 1 := rfl
  rw [e] at a
  rw [e2]
  omega
/-! ### o.m(b=.., a=..) of two, in the other sequence -/
def kwR {α : Type} (us ws : List α) : List α := match us, ws with | [x], [b, a] => [x, a, b] | _, _ => []
theorem kw_bindsR {K : PySem.W.Frag} {x qual : Str} {st : Stmt} {f : Addr} {fd : FuncData} {ps : List Str} {p0 p1 p2 : Str} (F : Fun K x qual st f fd) (hp : ps = [p0, p1, p2])
    (h : ∀ (kV doc pm : Value) (an : Option Addr) (cdv ct : Value) (u a b : Value), bindArgs (PySem.W.fnOf x qual (defArgs st) (defBody st) (defScope st) .none kV doc pm an cdv ct) ⟨[u], [(p2, b), (p1, a)]⟩ = pure [(p0, u), (p1, a), (p2, b)]) : KBinds K fd ps [p2, p1] kwR kwR := by
  obtain ⟨oc, od, kV, doc, pm, an, cdv, ct, osl, rfl, lk, hcd⟩ := F.ex
  subst hp
  refine ⟨fun s us ws _ hl => ?_, fun {vs us zs ws} r1 r2 => ?_⟩
  · match us, ws, hl with
    | [u], [b, a], _ => exact .of_eq (h kV doc pm an cdv ct u a b)
    | [], _, hl => simp [kwR] at hl
    | [_], [], hl => simp [kwR] at hl
    | [_], [_], hl => simp [kwR] at hl
    | [_], _ :: _ :: _ :: _, hl => simp [kwR] at hl
    | _ :: _ :: _, _, hl => simp [kwR] at hl
  · cases r1 with
    | nil => exact .nil
    | cons a t =>
      cases t with
      | cons b t => exact .nil
      | nil =>
        cases r2 with
        | nil => exact .nil
        | cons b r2 =>
          cases r2 with
          | nil => exact .nil
          | cons c r2 =>
            cases r2 with
            | nil => exact .cons a (.cons c (.cons b .nil))
            | cons _ _ => exact .nil
/-! ### a list of ints beside the empty one -/
theorem eqv_nil (ns : List Int) : PyData.eqv (.list (ns.map PyData.int)) (.list []) = ns.isEmpty := by
  cases ns with
  | nil => exact eqv_ints []
  | cons a r => simp [PyData.eqv, PyData.eqvAll]
theorem op_neNil {X : Cx} (hu : X.A.units + 64 < cLine) : OpR X (compareOp .NotEq) (fun x y H Q => ∃ (p q : Addr) (ns : List Int), x = .ref p ∧ y = .ref q ∧ SqL X.K H p (ns.map V.int) ∧ SqL X.K H q [] ∧ Q (.bl (!ns.isEmpty)) H) := by
  intro pins s σ H x y v u Q I rx ry ⟨p, q, ns, e1, e2, h1, h2, k⟩
  refine op_neD hu pins s σ H x y v u Q I rx ry ⟨.list (ns.map PyData.int), .list [], ?_, ?_, ?_, ?_, ?_⟩
  · rw [e1]; exact .lst h1 (dp_ints ns)
  · rw [e2]; exact .lst h2 .nil
  · exact sh_ints ns
  · exact sh_ints []
  · rw [eqv_nil]; exact k
end Hx

set_option Elab.async false
set_option linter.all false
set_option maxRecDepth 100000
set_option maxHeartbeats 4000000
namespace Hx
open PySem PySem.Spec PyProof.Rows L2
/-! ### lists of pairs of ints; things of the same data in a grown heap -/
def rowD (r : Int × Int) : PyData := .tuple [.int r.1, .int r.2]
def rowsD (rs : List (Int × Int)) : PyData := .list (rs.map rowD)
theorem dp_rows {K : PySem.W.Frag} {H : Hp} : ∀ (ts : List Addr) (rs : List (Int × Int)), ts.length = rs.length → (∀ (i : Nat) (t : Addr) (r : Int × Int), ts[i]? = some t → rs[i]? = some r → H t = some (.tup [.int r.1, .int r.2])) → DpAll K H (ts.map V.ref) (rs.map rowD)
  | [], [], _, _ => .nil
  | t :: ts, r :: rs, hl, h => .cons (.tup (SqT.of (h 0 t r rfl rfl)) (.cons (.int _) (.cons (.int _) .nil))) (dp_rows ts rs (by simpa using hl) fun i t' r' h1 h2 => h (i + 1) t' r' (by simpa using h1) (by simpa using h2))
  | [], _ :: _, hl, _ => by simp at hl
  | _ :: _, [], hl, _ => by simp at hl
theorem rows_sh (rs : List (Int × Int)) : SeqAt.shaped (rowsD rs) = true := flat_sh (n := 2) (flat_list (n := 1) fun d hd => by
  obtain ⟨r, _, rfl⟩ := List.mem_map.mp hd
  exact flat_tup (n := 0) fun d hd => by
    simp at hd
    rcases hd with rfl | rfl <;> exact flat_int 0 _)
theorem sqt_same {K : PySem.W.Frag} {H H' : Hp} {a : Addr} {xs : List V} (s : Same H H') (h : SqT K H a xs) : SqT K H' a xs := h.elim (fun r => r.elim (fun e => .inl (.inl (s _ _ e))) (fun ⟨o, e⟩ => .inl (.inr ⟨o, s _ _ e⟩))) .inr
mutual
theorem dp_same {K : PySem.W.Frag} {H H' : Hp} (s : Same H H') : ∀ (d : PyData) (v : V), Dp K H v d → Dp K H' v d
  | .none, _, h => by cases h; exact .non
  | .bool b, _, h => by cases h; exact .bl b
  | .int i, _, h => by cases h; exact .int i
  | .str x, _, h => by cases h; exact .str x
  | .list ds, _, h => by cases h with | lst h1 h2 => exact .lst (L2.Same.seq s h1) (dpA_same s ds _ h2)
  | .tuple ds, _, h => by cases h with | tup h1 h2 => exact .tup (sqt_same s h1) (dpA_same s ds _ h2)
  | .dict _, _, h => by cases h
theorem dpA_same {K : PySem.W.Frag} {H H' : Hp} (s : Same H H') : ∀ (ds : List PyData) (vs : List V), DpAll K H vs ds → DpAll K H' vs ds
  | [], _, h => by cases h; exact .nil
  | d :: ds, _, h => by cases h with | cons h1 h2 => exact .cons (dp_same s d _ h1) (dpA_same s ds _ h2)
end
end Hx

set_option Elab.async false
set_option linter.all false
set_option maxRecDepth 100000
set_option maxHeartbeats 4000000
namespace Hx
open PySem PySem.Spec PyProof.Rows L2
/-! ### keywords in any sequence: n values by place, then those of the permutation -/
def kwP {α : Type} (n : Nat) (perm : List Nat) (us ws : List α) : List α := if us.length = n ∧ ws.length = perm.length then us ++ perm.filterMap (fun i => ws[i]?) else []
theorem vals_append {a b : List V} {x y : List Value} (h : Vals a x) (k : Vals b y) : Vals (a ++ b) (x ++ y) := by
  induction h with
  | nil => exact k
  | cons r t ih => exact .cons r ih
theorem vals_get {a : List V} {x : List Value} (h : Vals a x) : ∀ i : Nat, (∃ v u, a[i]? = some v ∧ x[i]? = some u ∧ RelV v u) ∨ (a[i]? = none ∧ x[i]? = none) := by
  induction h with
  | nil => exact fun i => .inr ⟨by simp, by simp⟩
  | cons r t ih =>
    intro i
    cases i with
    | zero => exact .inl ⟨_, _, rfl, rfl, r⟩
    | succ j => simpa using ih j
theorem vals_perm {a : List V} {x : List Value} (h : Vals a x) : ∀ perm : List Nat, Vals (perm.filterMap (fun i => a[i]?)) (perm.filterMap (fun i => x[i]?))
  | [] => .nil
  | i :: r => by
    have t := vals_perm h r
    rcases vals_get h i with ⟨v, u, e1, e2, q⟩ | ⟨e1, e2⟩
    · rw [List.filterMap_cons, List.filterMap_cons, e1, e2]; exact .cons q t
    · rw [List.filterMap_cons, List.filterMap_cons, e1, e2]; exact t
theorem vals_kwP {n : Nat} {perm : List Nat} {vs zs : List V} {us ws : List Value} (h : Vals vs us) (k : Vals zs ws) : Vals (kwP n perm vs zs) (kwP n perm us ws) := by
  unfold kwP
  rw [h.length, k.length]
  split
  · exact vals_append h (vals_perm k perm)
  · exact .nil
theorem kw_bindsP {K : PySem.W.Frag} {x qual : Str} {st : Stmt} {f : Addr} {fd : FuncData} {ps ks : List Str} {n : Nat} {perm : List Nat} (F : Fun K x qual st f fd) (h0 : 0 < ps.length)
    (h : ∀ (kV doc pm : Value) (an : Option Addr) (cdv ct : Value) (us ws : List Value), us.length = n → ws.length = perm.length → bindArgs (PySem.W.fnOf x qual (defArgs st) (defBody st) (defScope st) .none kV doc pm an cdv ct) ⟨us, ks.zip ws⟩ = pure (ps.zip (kwP n perm us ws))) : KBinds K fd ps ks (kwP n perm) (kwP n perm) := by
  obtain ⟨oc, od, kV, doc, pm, an, cdv, ct, osl, rfl, lk, hcd⟩ := F.ex
  refine ⟨fun s us ws _ hl => ?_, fun r1 r2 => vals_kwP r1 r2⟩
  by_cases q : us.length = n ∧ ws.length = perm.length
  · exact .of_eq (h kV doc pm an cdv ct us ws q.1 q.2)
  · unfold kwP at hl; rw [if_neg q] at hl; simp at hl; omega
theorem kw_bindsN {K : PySem.W.Frag} {x qual : Str} {st : Stmt} {f : Addr} {fd : FuncData} {ps ks : List Str} {n : Nat} {perm : List Nat} (F : Fun K x qual st f fd) (h0 : ks.length = perm.length)
    (h : ∀ (kV doc pm : Value) (an : Option Addr) (cdv ct : Value) (us ws : List Value), us.length = n → ws.length = perm.length → bindArgs (PySem.W.fnOf x qual (defArgs st) (defBody st) (defScope st) .none kV doc pm an cdv ct) ⟨us, ks.zip ws⟩ = pure (ps.zip (kwP n perm us ws))) : KBn K fd ps n ks (kwP n perm) (kwP n perm) := by
  obtain ⟨oc, od, kV, doc, pm, an, cdv, ct, osl, rfl, lk, hcd⟩ := F.ex
  exact ⟨fun s us ws _ l1 l2 => .of_eq (h kV doc pm an cdv ct us ws l1 (l2.trans h0)), fun r1 r2 => vals_kwP r1 r2⟩
/-! ### an own == beside a list -/
theorem op_eqOwnL {X : Cx} {n : Nat} {C f : Addr} {fd : FuncData} {ps : List Str} {sp : Sp} (F : FnOk X.prog X.w X.K X.mg X.base CX0 n f fd ps sp) (hr : Room n X.A)
    (hs : PySem.W.findIn X.K (.ref C) "__eq__" = some (some (.ref f))) (hf : PySem.W.isFn X.K (.ref f) = true) (hb : Binds X.K fd ps []) (hsl : PySem.W.subIn X.K (.type "list") (.ref C) = some false) :
    OpR X (compareOp .Eq) (fun x y H Q => ∃ a b dx fs xs, x = .ref a ∧ y = .ref b ∧ H a = some (.ins C dx fs) ∧ H b = some (.lst xs) ∧ sp [.ref a, .ref b] H (fun v H' => ∃ c, v = .bl c ∧ Q (.bl c) H') (fun _ _ _ => False)) := by
  intro pins s σ H x y v u Q I rx ry h
  obtain ⟨a, b, dx, fs, xs, rfl, rfl, ha, hb', hsp⟩ := h
  cases rx
  cases ry
  obtain ⟨mA, J, _⟩ := ins_get I.hok ha
  obtain ⟨od, J, _⟩ := J.look
  obtain ⟨_, _, nn, _, h1⟩ := (show ObjOk X.prog X.w H s.heap b (.lst xs) from I.hok b _ hb')
  obtain ⟨m, hF⟩ := I.fr
  have hu := hr.un
  refine PySem.W.cmp_K (op := .Eq) (tb := .type "list") (by omega) hF I.ok.mod.kin J (fun A Q E s k q => wpAny_typeOf_ref (k _ _ h1) q) (by simp [PySem.W.notFirst, hsl]) hs hf ?_
  have hl := F.len _ _ _ _ hsp
  have r2 : Vals [V.ref a, V.ref b] [Value.ref a, Value.ref b] := .cons rfl (.cons rfl .nil)
  have hB : BindsTo s fd ⟨[.ref a, .ref b], []⟩ (ps.zip [.ref a, .ref b]) := by
    have := hb s [.ref a, .ref b] I.kIn (by simpa using hl)
    simpa using this
  refine wpAny_call (codeAny_mono (F.run X.A X.stack s H ⟨[.ref a, .ref b], []⟩ [.ref a, .ref b] [.ref a, .ref b] _ _ hr I.env0 hB r2 hsp) fun r s' hq => ?_)
  match r, hq with
  | .ok (.ret w), hq =>
    obtain ⟨z, H', I', rz, c, rfl, q⟩ := I.after hq
    cases rz
    exact ⟨.bl c, H', I', rfl, q⟩
  | .error e, hq => exact False.elim hq
  | .ok .next, hq => exact False.elim hq
  | .ok .brk, hq => exact False.elim hq
  | .ok .cont, hq => exact False.elim hq
theorem kit_not {K : PySem.W.Frag} {C : Addr} (h1 : PySem.W.isClsIn K C = true) (h2 : PySem.W.typeIn K (.ref C) = some (.type "type")) (h3 : PySem.W.subIn K (.type "list") (.ref C) = some false) : PySem.W.kitOne K (.type "list") (.ref C) = some false := by
  have e : ((PySem.W.clsIn K C).isSome && PySem.W.typeIn K (.ref C) == some (.type "type")) = true := by
    have h1' : (PySem.W.clsIn K C).isSome = true := h1
    rw [h1', h2] <;> rfl
  show (if ((Value.type "list" == .ref C) = true) then some true else (if ((PySem.W.clsIn K C).isSome && PySem.W.typeIn K (.ref C) == some (.type "type")) = true then PySem.W.subIn K (.type "list") (.ref C) else none)) = some false
  rw [if_neg (by intro z; cases z), if_pos e]
  exact h3
/-! ### a comprehension that sifts -/
theorem lc_filt {α : Type} {K : PySem.W.Frag} {a : Addr} {g : TG} {tt : TT} {te : TE} {vs : List Nat} {σ : L2.St} {H1 : Hp} {D : Addr} {Qd : Hp → Prop} (zs : List α) (f : α → V) (t : α → Bool) (ha : SqL K H1 a (zs.map f)) (hD : H1 D = none) (hz : zs.length ≤ 10000)
    (hs : ∀ (i : Nat) (z : α) (H' : Hp) (Qn : Hp → Prop) (Qy : VK), zs[i]? = some z → Same H1 H' → (t z = false → ∀ H'', Same H' H'' → Qn H'') → (t z = true → ∀ H'', Same H' H'' → Qy (f z) H'') → g (f z) (wipe σ vs) H' fun σ2 H2 => wipe σ2 vs = wipe σ vs ∧ tt σ2 H2 fun b H3 => if b = true then te σ2 H3 Qy else Qn H3)
    (hd : ∀ H', Same H1 H' → H' D = some (.lst ((zs.filter t).map f)) → Qd H') :
    ∃ W : Nat → Nat → Hp → Prop, (∃ m, W 0 m (upd H1 D (.lst []))) ∧ ∀ i m H, W i m H →
      ((Itl K a).stop i H ∧ Qd H) ∨ ((Itl K a).go i H ∧ ∃ Nx : Hp → Prop, (∀ H', Nx H' → ∃ m', m' < m ∧ W (i + 1) m' H') ∧ ∀ x H', (Itl K a).yld i H x H' → g x (wipe σ vs) H' fun σ2 H2 => wipe σ2 vs = wipe σ vs ∧ tt σ2 H2 fun b H3 =>
        if b = true then te σ2 H3 fun y H4 => ∃ acc, H4 D = some (.lst acc) ∧ acc.length < sizeLine ∧ Nx (upd H4 D (.lst (acc ++ [y]))) else Nx H3) := by
  refine lc_list (xs := zs.map f) (fun i H => Same H1 H ∧ H D = some (.lst (((zs.take i).filter t).map f))) ⟨same_upd hD, upd_same⟩ (fun i H _ h => L2.Same.seq h.1 ha) (fun i x H hx h => ?_) (fun H h => hd H h.1 (by rw [h.2, List.length_map, List.take_length]))
  rw [List.getElem?_map] at hx
  obtain ⟨z, hz1, rfl⟩ := Option.map_eq_some_iff.mp hx
  have et : zs.take (i + 1) = zs.take i ++ [z] := by rw [List.take_add_one, hz1]; rfl
  refine hs i z H _ _ hz1 h.1 (fun tn H'' s => ?_) (fun ty H'' s => ?_)
  · refine ⟨L2.Same.trans h.1 s, ?_⟩
    rw [s _ _ h.2, et, List.filter_append, List.filter_cons_of_neg (by simp [tn]), List.filter_nil, List.append_nil]
  · refine ⟨((zs.take i).filter t).map f, s _ _ h.2, size_lt ?_, same_set (L2.Same.trans h.1 s) hD, ?_⟩
    · have := List.length_filter_le t (zs.take i)
      simp at this ⊢; omega
    · rw [upd_same, et, List.filter_append, List.filter_cons_of_pos ty, List.filter_nil, List.map_append]; rfl
/-! ### parts of a list -/
theorem cut_from (xs : List V) (k : Nat) : cutV xs (some (k : Int)) none = xs.drop k := by
  unfold cutV
  rw [HT.sIx_nat, HT.sIx_none, List.take_of_length_le (by rw [List.length_drop]; omega)]
  by_cases h : k ≤ xs.length
  · rw [Nat.min_eq_left h]
  · rw [Nat.min_eq_right (by omega), List.drop_length, List.drop_of_length_le (by omega)]
theorem cut_to (xs : List V) (k : Nat) : cutV xs none (some (k : Int)) = xs.take k := by
  unfold cutV
  rw [HT.sIx_nat, HT.sIx_none, List.drop_zero, Nat.sub_zero]
  by_cases h : k ≤ xs.length
  · rw [Nat.min_eq_left h]
  · rw [Nat.min_eq_right (by omega), List.take_length, List.take_of_length_le (by omega)]
/-! ### a list beside the empty one -/
theorem eqv_nilD (ds : List PyData) : PyData.eqv (.list ds) (.list []) = ds.isEmpty := by
  cases ds with
  | nil => rfl
  | cons a r => simp [PyData.eqv, PyData.eqvAll]
end Hx

set_option Elab.async false
set_option linter.all false
set_option maxRecDepth 100000
set_option maxHeartbeats 4000000
/-! HsSep: what is owned of a heap, as a list; a part of the heap that never changes; frames. -/
namespace L2
open PySem PySem.Spec PyProof.Rows
variable {K : PySem.W.Frag}
theorem DpAll.app' {M : Hp} : ∀ {vs us : List V} {ds es : List PyData}, DpAll K M vs ds → DpAll K M us es → DpAll K M (vs ++ us) (ds ++ es)
  | _, _, _, _, .nil, y => y
  | _, _, _, _, .cons x z, y => .cons x (DpAll.app' z y)
theorem DpAll.get {M : Hp} : ∀ {vs : List V} {ds : List PyData} {i : Nat} {v : V}, DpAll K M vs ds → vs[i]? = some v → ∃ d, ds[i]? = some d ∧ Dp K M v d
  | _, _, _, _, .nil, e => by simp at e
  | _, _, 0, _, .cons x _, e => by simp at e; subst e; exact ⟨_, rfl, x⟩
  | _, _, i + 1, v, .cons _ y, e => by
    obtain ⟨d, h1, h2⟩ := DpAll.get (i := i) (v := v) y (by simpa using e)
    exact ⟨d, by simpa using h1, h2⟩
theorem DpAll.get' {M : Hp} : ∀ {vs : List V} {ds : List PyData} {i : Nat} {v : V} {d : PyData}, DpAll K M vs ds → vs[i]? = some v → ds[i]? = some d → Dp K M v d := fun h e1 e2 => by
  obtain ⟨d', h1, h2⟩ := h.get e1
  rw [e2] at h1; cases h1; exact h2
theorem DpAll.len {M : Hp} : ∀ {vs : List V} {ds : List PyData}, DpAll K M vs ds → vs.length = ds.length
  | _, _, .nil => rfl
  | _, _, .cons _ y => by simp [DpAll.len y]
theorem DpAll.take {M : Hp} : ∀ {vs : List V} {ds : List PyData} (n : Nat), DpAll K M vs ds → DpAll K M (vs.take n) (ds.take n)
  | _, _, 0, _ => by simpa using DpAll.nil
  | _, _, _ + 1, .nil => by simpa using DpAll.nil
  | _, _, n + 1, .cons x y => by simpa using DpAll.cons x (DpAll.take n y)
theorem DpAll.drop {M : Hp} : ∀ {vs : List V} {ds : List PyData} (n : Nat), DpAll K M vs ds → DpAll K M (vs.drop n) (ds.drop n)
  | _, _, 0, h => by simpa using h
  | _, _, _ + 1, .nil => by simpa using DpAll.nil
  | _, _, n + 1, .cons _ y => by simpa using DpAll.drop n y
theorem DpAll.set {M : Hp} {v : V} {d : PyData} (x : Dp K M v d) : ∀ {vs : List V} {ds : List PyData} (n : Nat), DpAll K M vs ds → DpAll K M (vs.set n v) (ds.set n d)
  | _, _, _, .nil => by simpa using DpAll.nil
  | _, _, 0, .cons _ y => by simpa using DpAll.cons x y
  | _, _, n + 1, .cons z y => by simpa using DpAll.cons z (DpAll.set x n y)
theorem DpAll.erase {M : Hp} : ∀ {vs : List V} {ds : List PyData} (n : Nat), DpAll K M vs ds → DpAll K M (vs.eraseIdx n) (ds.eraseIdx n)
  | _, _, _, .nil => by simpa using DpAll.nil
  | _, _, 0, .cons _ y => by simpa using y
  | _, _, n + 1, .cons x y => by simpa using DpAll.cons x (DpAll.erase n y)
theorem DpAll.dropLast {M : Hp} {vs : List V} {ds : List PyData} (h : DpAll K M vs ds) : DpAll K M vs.dropLast ds.dropLast := by
  rw [List.dropLast_eq_take, List.dropLast_eq_take, h.len]; exact h.take _
theorem DpAll.rev {M : Hp} : ∀ {vs : List V} {ds : List PyData}, DpAll K M vs ds → DpAll K M vs.reverse ds.reverse
  | _, _, .nil => .nil
  | _, _, .cons x y => by rw [List.reverse_cons, List.reverse_cons]; exact DpAll.app' (DpAll.rev y) (.cons x .nil)
end L2
namespace Hx
open PySem PySem.Spec PyProof.Rows L2
/-- what stands at an owned address -/
inductive Ob where
  | raw (o : HO)
  | such (φ : HO → Prop)
  | L (ds : List PyData)
  | D (kds : List (Key × PyData))
/-- M: the part that never changes -/
def Hd (K : PySem.W.Frag) (M H : Hp) (a : Addr) : Ob → Prop
  | .raw o => H a = some o
  | .such φ => ∃ o, H a = some o ∧ φ o
  | .L ds => ∃ vs, H a = some (.lst vs) ∧ DpAll K M vs ds
  | .D kds => ∃ kvs : List (Key × V), H a = some (.dK kvs) ∧ kvs.map Prod.fst = kds.map Prod.fst ∧ DpAll K M (kvs.map Prod.snd) (kds.map Prod.snd)
/-- what is known of the part that never changes -/
inductive Pf where
  | tup (t : Addr) (vs : List V)
  | lst (t : Addr) (vs : List V)
  | dp (vs : List V) (ds : List PyData)
  | sq (t : Addr) (vs : List V)
def Pf.ok (K : PySem.W.Frag) (M : Hp) : Pf → Prop
  | .tup t vs => M t = some (.tup vs)
  | .lst t vs => M t = some (.lst vs)
  | .dp vs ds => DpAll K M vs ds
  | .sq t vs => SqT K M t vs
structure Own (K : PySem.W.Frag) (H : Hp) (L : List (Addr × Ob)) (P : List Pf) : Prop where
  ex : ∃ M : Hp, (L.map Prod.fst).Nodup ∧ (∀ p ∈ L, Hd K M H p.1 p.2 ∧ M p.1 = none) ∧ (∀ b u, M b = some u → H b = some u) ∧ ∀ q ∈ P, q.ok K M
theorem Pf.same {K : PySem.W.Frag} {M M' : Hp} (s : Same M M') : ∀ q : Pf, q.ok K M → q.ok K M'
  | .tup t vs, h => s _ _ h
  | .lst t vs, h => s _ _ h
  | .dp vs ds, h => dpA_same s _ _ h
  | .sq t vs, h => sqt_same s h
theorem Hd.some {K : PySem.W.Frag} {M H : Hp} {a : Addr} : ∀ {o : Ob}, Hd K M H a o → ∃ u, H a = Option.some u
  | .raw _, h => ⟨_, h⟩
  | .such _, ⟨_, h, _⟩ => ⟨_, h⟩
  | .L _, ⟨_, h, _⟩ => ⟨_, h⟩
  | .D _, ⟨_, h, _⟩ => ⟨_, h⟩
theorem Hd.same {K : PySem.W.Frag} {M M' H H' : Hp} {a : Addr} (s : Same M M') (e : H' a = H a) : ∀ {o : Ob}, Hd K M H a o → Hd K M' H' a o
  | .raw _, h => e.trans h
  | .such _, ⟨_, h, q⟩ => ⟨_, e.trans h, q⟩
  | .L _, ⟨_, h, q⟩ => ⟨_, e.trans h, dpA_same s _ _ q⟩
  | .D _, ⟨_, h, k, q⟩ => ⟨_, e.trans h, k, dpA_same s _ _ q⟩
variable {K : PySem.W.Frag} {H H1 M : Hp} {L L' R B : List (Addr × Ob)} {P P' : List Pf} {p a t : Addr} {o : HO} {ob : Ob} {vs us : List V} {ds es : List PyData}
theorem Own.new (h : Own K H L P) (f : H p = none) (e : upd H p o = H1) : Own K H1 ((p, .raw o) :: L) P := by
  subst e
  obtain ⟨M, nd, hl, hs, hp⟩ := h.ex
  have np : ∀ q ∈ L, q.1 ≠ p := fun q hq z => by obtain ⟨u, hu⟩ := (hl q hq).1.some; rw [z, f] at hu; cases hu
  have mp : M p = none := by
    cases e : M p with
    | none => rfl
    | some u => rw [hs _ _ e] at f; cases f
  refine ⟨M, ?_, fun q hq => ?_, fun b u hb => ?_, hp⟩
  · rw [List.map_cons, List.nodup_cons]
    exact ⟨fun z => by obtain ⟨q, hq, e⟩ := List.mem_map.mp z; exact np q hq e, nd⟩
  · rcases List.mem_cons.mp hq with rfl | hq
    · exact ⟨upd_same, mp⟩
    · exact ⟨(hl q hq).1.same (L2.Same.refl _) (upd_ne (np q hq)), (hl q hq).2⟩
  · rw [upd_ne (fun z => by rw [z, mp] at hb; cases hb)]; exact hs _ _ hb
/-- a new thing that never changes -/
theorem Own.newM (h : Own K H L P) (f : H p = none) (e : upd H p o = H1) {q : Pf} (hq : ∀ M : Hp, M p = some o → q.ok K M) : Own K H1 L (q :: P) := by
  subst e
  obtain ⟨M, nd, hl, hs, hp⟩ := h.ex
  have np : ∀ q ∈ L, q.1 ≠ p := fun q hq z => by obtain ⟨u, hu⟩ := (hl q hq).1.some; rw [z, f] at hu; cases hu
  have mp : M p = none := by
    cases e : M p with
    | none => rfl
    | some u => rw [hs _ _ e] at f; cases f
  have sm : Same M (upd M p o) := same_upd mp
  refine ⟨upd M p o, nd, fun q hq => ⟨(hl q hq).1.same sm (upd_ne (np q hq)), by rw [upd_ne (np q hq)]; exact (hl q hq).2⟩, fun b u hb => ?_, fun r hr => ?_⟩
  · by_cases z : b = p
    · subst z; rw [upd_same] at hb ⊢; exact hb
    · rw [upd_ne z] at hb ⊢; exact hs _ _ hb
  · rcases List.mem_cons.mp hr with rfl | hr
    · exact hq _ upd_same
    · exact r.same sm (hp r hr)
theorem Own.newT (h : Own K H L P) (f : H p = none) (e : upd H p (.tup vs) = H1) : Own K H1 L (.tup p vs :: P) := h.newM f e fun _ z => z
theorem Own.newP (h : Own K H L P) (f : H p = none) (e : upd H p (.lst vs) = H1) : Own K H1 L (.lst p vs :: P) := h.newM f e fun _ z => z
inductive At : List (Addr × Ob) → Addr → Ob → List (Addr × Ob) → Prop
  | head {a : Addr} {o o' : Ob} {t : List (Addr × Ob)} : At ((a, o) :: t) a o' ((a, o') :: t)
  | tail {a : Addr} {o' : Ob} {p : Addr × Ob} {t t' : List (Addr × Ob)} : At t a o' t' → At (p :: t) a o' (p :: t')
  | app {a : Addr} {o' : Ob} {A t t' : List (Addr × Ob)} : At t a o' t' → At (A ++ t) a o' (A ++ t')
theorem At.parts {L L' : List (Addr × Ob)} {a : Addr} {o' : Ob} (h : At L a o' L') : ∃ x o y, L = x ++ (a, o) :: y ∧ L' = x ++ (a, o') :: y := by
  induction h with
  | head => exact ⟨[], _, _, rfl, rfl⟩
  | tail _ ih => obtain ⟨x, o, y, e1, e2⟩ := ih; exact ⟨_ :: x, o, y, by rw [e1]; rfl, by rw [e2]; rfl⟩
  | @app _ _ A _ _ _ ih => obtain ⟨x, o, y, e1, e2⟩ := ih; exact ⟨A ++ x, o, y, by rw [e1, List.append_assoc], by rw [e2, List.append_assoc]⟩
theorem Own.setU (h : Own K H L P) (m : At L a ob L') (e : upd H a o = H1) (hd : ∀ M : Hp, (∀ q ∈ P, q.ok K M) → (∀ o0, (a, o0) ∈ L → Hd K M H a o0) → Hd K M (upd H a o) a ob) : Own K H1 L' P := by
  subst e
  obtain ⟨M, nd, hl, hs, hp⟩ := h.ex
  obtain ⟨x, o0, y, rfl, rfl⟩ := m.parts
  have ma : M a = none := (hl (a, o0) (by simp)).2
  have nd' := nd
  rw [List.map_append, List.map_cons, List.nodup_append, List.nodup_cons] at nd'
  have na : ∀ q, (q ∈ x ∨ q ∈ y) → q.1 ≠ a := fun q hq z => by
    rcases hq with hq | hq
    · exact nd'.2.2 q.1 (List.mem_map_of_mem hq) a List.mem_cons_self z
    · exact nd'.2.1.1 (List.mem_map.mpr ⟨q, hq, z⟩)
  refine ⟨M, by rw [List.map_append, List.map_cons] at nd ⊢; exact nd, fun q hq => ?_, fun b u hb => ?_, hp⟩
  · have old : (q ∈ x ∨ q ∈ y) → Hd K M (upd H a o) q.1 q.2 ∧ M q.1 = none := fun z => by
      have := hl q (by rcases z with z | z <;> simp [z])
      exact ⟨this.1.same (L2.Same.refl _) (upd_ne (na q z)), this.2⟩
    rcases List.mem_append.mp hq with hq | hq
    · exact old (.inl hq)
    · rcases List.mem_cons.mp hq with rfl | hq
      · exact ⟨hd M hp fun o1 m1 => (hl _ m1).1, ma⟩
      · exact old (.inr hq)
  · rw [upd_ne (fun z => by rw [z, ma] at hb; cases hb)]; exact hs _ _ hb
theorem Own.setO (h : Own K H L P) (m : At L a ob L') (e : upd H a o = H1) (hd : ∀ M : Hp, (∀ q ∈ P, q.ok K M) → Hd K M (upd H a o) a ob) : Own K H1 L' P := h.setU m e fun M q _ => hd M q
theorem Own.set (h : Own K H L P) (m : At L a (.raw o) L') (e : upd H a o = H1) : Own K H1 L' P := h.setO m e fun _ _ => upd_same
/-- the same, by a name that a walker sees -/
def updX (H : Hp) (a : Addr) (o : HO) : Hp := upd H a o
theorem upd_mk (H : Hp) (a : Addr) (o : HO) : upd H a o = updX H a o := rfl
theorem upd_mkO (h : Own K H L P) (a : Addr) (o : HO) : upd H a o = updX H a o := rfl
theorem Own.cset {G : Prop} (h : Own K H L P) (e : updX H a o = H1) (m : At L a (.raw o) L') (k : Own K H1 L' P → G) : G := k (h.set m e)
theorem Own.cnewT {G : Prop} (h : Own K H L P) (e : updX H p (.tup vs) = H1) (f : H p = none) (k : Own K H1 L (.tup p vs :: P) → G) : G := k (h.newT f e)
theorem Own.cnew {G : Prop} (h : Own K H L P) (e : updX H p o = H1) (f : H p = none) (k : Own K H1 ((p, .raw o) :: L) P → G) : G := k (h.new f e)
theorem Own.make {C dx x : Addr} (h : Own K H L P) (f1 : H x = none) (f2 : H dx = none) (f3 : dx ≠ x) (e : upd (updX H dx (.own x)) x (.ins C dx []) = H1) : Own K H1 ((x, .raw (.ins C dx [])) :: L) P := by
  have h1 := h.new f2 (o := .own x) rfl
  have h2 := h1.new (p := x) (o := .ins C dx []) (by rw [upd_ne (Ne.symm f3)]; exact f1) e
  obtain ⟨M, nd, hl, hs, hp⟩ := h2.ex
  refine ⟨M, ?_, fun p hp' => hl p ?_, hs, hp⟩
  · simp only [List.map_cons, List.nodup_cons, List.mem_cons, not_or] at nd ⊢
    exact ⟨nd.1.2, nd.2.2⟩
  · rcases List.mem_cons.mp hp' with rfl | z
    · exact List.mem_cons_self
    · exact List.mem_cons_of_mem _ (List.mem_cons_of_mem _ z)
theorem Own.cmake {G : Prop} {C dx x : Addr} (h : Own K H L P) (f1 : H x = none) (f2 : H dx = none) (f3 : dx ≠ x) (e : upd (updX H dx (.own x)) x (.ins C dx []) = H1) (k : Own K H1 ((x, .raw (.ins C dx [])) :: L) P → G) : G := k (h.make f1 f2 f3 e)
theorem Own.raw (h : Own K H L P) (m : (a, Ob.raw o) ∈ L) : H a = some o := by
  obtain ⟨M, nd, hl, hs, hp⟩ := h.ex
  exact (hl _ m).1
theorem Own.ptup (h : Own K H L P) (m : Pf.tup t vs ∈ P) : H t = some (.tup vs) := by
  obtain ⟨M, nd, hl, hs, hp⟩ := h.ex
  exact hs _ _ (hp _ m)
theorem Own.plst (h : Own K H L P) (m : Pf.lst t vs ∈ P) : H t = some (.lst vs) := by
  obtain ⟨M, nd, hl, hs, hp⟩ := h.ex
  exact hs _ _ (hp _ m)
theorem Own.pdp (h : Own K H L P) (m : Pf.dp vs ds ∈ P) : DpAll K H vs ds := by
  obtain ⟨M, nd, hl, hs, hp⟩ := h.ex
  exact dpA_same hs _ _ (hp _ m)
theorem Own.psq (h : Own K H L P) (m : Pf.sq t vs ∈ P) : SqT K H t vs := by
  obtain ⟨M, nd, hl, hs, hp⟩ := h.ex
  exact sqt_same hs (hp _ m)
theorem Own.lst (h : Own K H L P) (m : (a, Ob.L ds) ∈ L) : ∃ vs, H a = some (.lst vs) ∧ DpAll K H vs ds := by
  obtain ⟨M, nd, hl, hs, hp⟩ := h.ex
  obtain ⟨vs, e, q⟩ := (hl _ m).1
  exact ⟨vs, e, dpA_same hs _ _ q⟩
/-- entries by other words of the same heap -/
theorem Own.re (h : Own K H L P) (m : At L a ob L') {P' : List Pf} (f : ∀ M : Hp, (∀ q ∈ P, q.ok K M) → (∀ b u, M b = some u → H b = some u) → (∀ o0, (a, o0) ∈ L → Hd K M H a o0) → Hd K M H a ob ∧ ∀ q ∈ P', q.ok K M) : Own K H L' P' := by
  obtain ⟨M, nd, hl, hs, hp⟩ := h.ex
  obtain ⟨x, o0, y, rfl, rfl⟩ := m.parts
  obtain ⟨g1, g2⟩ := f M hp hs fun o0 m => (hl _ m).1
  refine ⟨M, by rw [List.map_append, List.map_cons] at nd ⊢; exact nd, fun q hq => ?_, hs, g2⟩
  rcases List.mem_append.mp hq with z | z
  · exact hl q (List.mem_append.mpr (.inl z))
  · rcases List.mem_cons.mp z with rfl | z
    · exact ⟨g1, (hl (a, o0) (by simp)).2⟩
    · exact hl q (List.mem_append.mpr (.inr (List.mem_cons_of_mem _ z)))
theorem Own.openL (h : Own K H L P) (m : (a, Ob.L ds) ∈ L) : ∃ vs, ∀ L', At L a (.raw (.lst vs)) L' → Own K H L' (.dp vs ds :: P) := by
  obtain ⟨M, nd, hl, hs, hp⟩ := h.ex
  obtain ⟨vs, e, q⟩ := (hl _ m).1
  refine ⟨vs, fun L' m' => ?_⟩
  obtain ⟨x, o0, y, rfl, rfl⟩ := m'.parts
  refine ⟨M, by rw [List.map_append, List.map_cons] at nd ⊢; exact nd, fun z hz => ?_, hs, fun z hz => ?_⟩
  · rcases List.mem_append.mp hz with w | w
    · exact hl z (List.mem_append.mpr (.inl w))
    · rcases List.mem_cons.mp w with rfl | w
      · exact ⟨e, (hl (a, o0) (by simp)).2⟩
      · exact hl z (List.mem_append.mpr (.inr (List.mem_cons_of_mem _ w)))
  · rcases List.mem_cons.mp hz with rfl | hz
    · exact q
    · exact hp z hz
theorem Own.openD {kds : List (Key × PyData)} (h : Own K H L P) (m : (a, Ob.D kds) ∈ L) : ∃ kvs : List (Key × V), kvs.map Prod.fst = kds.map Prod.fst ∧ ∀ L', At L a (.raw (.dK kvs)) L' → Own K H L' (.dp (kvs.map Prod.snd) (kds.map Prod.snd) :: P) := by
  obtain ⟨M, nd, hl, hs, hp⟩ := h.ex
  obtain ⟨vs, e, k, q⟩ := (hl _ m).1
  refine ⟨vs, k, fun L' m' => ?_⟩
  obtain ⟨x, o0, y, rfl, rfl⟩ := m'.parts
  refine ⟨M, by rw [List.map_append, List.map_cons] at nd ⊢; exact nd, fun z hz => ?_, hs, fun z hz => ?_⟩
  · rcases List.mem_append.mp hz with w | w
    · exact hl z (List.mem_append.mpr (.inl w))
    · rcases List.mem_cons.mp w with rfl | w
      · exact ⟨e, (hl (a, o0) (by simp)).2⟩
      · exact hl z (List.mem_append.mpr (.inr (List.mem_cons_of_mem _ w)))
  · rcases List.mem_cons.mp hz with rfl | hz
    · exact q
    · exact hp z hz
theorem Own.openS {φ : HO → Prop} (h : Own K H L P) (m : (a, Ob.such φ) ∈ L) : ∃ o, φ o ∧ ∀ L', At L a (.raw o) L' → Own K H L' P := by
  obtain ⟨M, nd, hl, hs, hp⟩ := h.ex
  obtain ⟨o, e, q⟩ := (hl _ m).1
  refine ⟨o, q, fun L' m' => ?_⟩
  obtain ⟨x, o0, y, rfl, rfl⟩ := m'.parts
  refine ⟨M, by rw [List.map_append, List.map_cons] at nd ⊢; exact nd, fun z hz => ?_, hs, hp⟩
  rcases List.mem_append.mp hz with w | w
  · exact hl z (List.mem_append.mpr (.inl w))
  · rcases List.mem_cons.mp w with rfl | w
    · exact ⟨e, (hl (a, o0) (by simp)).2⟩
    · exact hl z (List.mem_append.mpr (.inr (List.mem_cons_of_mem _ w)))
theorem Own.derive (h : Own K H L P) {q : Pf} (f : ∀ M : Hp, (∀ q ∈ P, q.ok K M) → q.ok K M) : Own K H L (q :: P) := by
  obtain ⟨M, nd, hl, hs, hp⟩ := h.ex
  exact ⟨M, nd, hl, hs, fun r hr => (List.mem_cons.mp hr).elim (fun e => e ▸ f M hp) (hp r)⟩
/-! ### what follows of what is known -/
def Dv (K : PySem.W.Frag) (P : List Pf) (vs : List V) (ds : List PyData) : Prop := ∀ M : Hp, (∀ q ∈ P, q.ok K M) → DpAll K M vs ds
def Dv1 (K : PySem.W.Frag) (P : List Pf) (v : V) (d : PyData) : Prop := ∀ M : Hp, (∀ q ∈ P, q.ok K M) → Dp K M v d
theorem Dv.nil : Dv K P [] [] := fun _ _ => .nil
theorem Dv.cons {v : V} {d : PyData} (x : Dv1 K P v d) (y : Dv K P vs ds) : Dv K P (v :: vs) (d :: ds) := fun M h => .cons (x M h) (y M h)
theorem Dv.of (m : Pf.dp vs ds ∈ P) : Dv K P vs ds := fun M h => h _ m
theorem Dv.app (x : Dv K P vs ds) (y : Dv K P us es) : Dv K P (vs ++ us) (ds ++ es) := fun M h => L2.DpAll.app' (x M h) (y M h)
theorem Dv1.non : Dv1 K P .non .none := fun _ _ => .non
theorem Dv1.bl (b : Bool) : Dv1 K P (.bl b) (.bool b) := fun _ _ => .bl b
theorem Dv1.int (i : Int) : Dv1 K P (.int i) (.int i) := fun _ _ => .int i
theorem Dv1.str (x : Str) : Dv1 K P (.str x) (.str x) := fun _ _ => .str x
theorem Dv1.tup (m : Pf.tup t vs ∈ P) (x : Dv K P vs ds) : Dv1 K P (.ref t) (.tuple ds) := fun M h => .tup (SqT.of (h _ m)) (x M h)
theorem Dv1.lst (m : Pf.lst t vs ∈ P) (x : Dv K P vs ds) : Dv1 K P (.ref t) (.list ds) := fun M h => .lst (SqL.of (h _ m)) (x M h)
theorem Dv1.of {v : V} {d : PyData} (m : Pf.dp [v] [d] ∈ P) : Dv1 K P v d := fun M h => by cases h _ m with | cons x _ => exact x
theorem DpAll_split {M : Hp} : ∀ {a b : List V} {d e : List PyData}, L2.DpAll K M (a ++ b) (d ++ e) → a.length = d.length → L2.DpAll K M a d ∧ L2.DpAll K M b e
  | [], _, [], _, h, _ => ⟨.nil, h⟩
  | [], _, _ :: _, _, _, l => by simp at l
  | _ :: _, _, [], _, _, l => by simp at l
  | x :: a, b, y :: d, e, h, l => by
    cases h with
    | cons p q =>
      obtain ⟨r1, r2⟩ := DpAll_split (a := a) (b := b) (d := d) (e := e) q (by simpa using l)
      exact ⟨.cons p r1, r2⟩
theorem Dv.fst {us : List V} (x : Dv K P (vs ++ us) (ds ++ es)) (l : vs.length = ds.length) : Dv K P vs ds := fun M h => (DpAll_split (x M h) l).1
theorem Dv.snd {us : List V} (x : Dv K P (vs ++ us) (ds ++ es)) (l : vs.length = ds.length) : Dv K P us es := fun M h => (DpAll_split (x M h) l).2
theorem Dv.hd {v : V} {d : PyData} (x : Dv K P (v :: vs) (d :: ds)) : Dv1 K P v d := fun M h => by cases x M h with | cons y _ => exact y
theorem Dv.tl {v : V} {d : PyData} (x : Dv K P (v :: vs) (d :: ds)) : Dv K P vs ds := fun M h => by cases x M h with | cons _ y => exact y
theorem Own.pd1 {v : V} {d : PyData} (h : Own K H L P) (m : Pf.dp [v] [d] ∈ P) : Dp K H v d := by
  cases h.pdp m with
  | cons y _ => exact y
theorem Own.dpL (h : Own K H L P) (m : (a, Ob.L ds) ∈ L) : Dp K H (.ref a) (.list ds) := by
  obtain ⟨vs, e, q⟩ := h.lst m
  exact .lst (SqL.of e) q
theorem Dv.take (n : Nat) (x : Dv K P vs ds) : Dv K P (vs.take n) (ds.take n) := fun M h => (x M h).take n
theorem Dv.drop (n : Nat) (x : Dv K P vs ds) : Dv K P (vs.drop n) (ds.drop n) := fun M h => (x M h).drop n
theorem Dv.set {v : V} {d : PyData} (n : Nat) (y : Dv1 K P v d) (x : Dv K P vs ds) : Dv K P (vs.set n v) (ds.set n d) := fun M h => (x M h).set (y M h) n
theorem Dv.erase (n : Nat) (x : Dv K P vs ds) : Dv K P (vs.eraseIdx n) (ds.eraseIdx n) := fun M h => (x M h).erase n
theorem Dv.dropLast (x : Dv K P vs ds) : Dv K P vs.dropLast ds.dropLast := fun M h => (x M h).dropLast
theorem Dv.rev (x : Dv K P vs ds) : Dv K P vs.reverse ds.reverse := fun M h => (x M h).rev
theorem Dv.get {i : Nat} {v : V} {d : PyData} (x : Dv K P vs ds) (e1 : vs[i]? = some v) (e2 : ds[i]? = some d) : Dv1 K P v d := fun M h => (x M h).get' e1 e2
theorem Dv.ints (ns : List Int) : Dv K P (ns.map V.int) (ns.map PyData.int) := fun _ _ => dp_ints ns
theorem Own.dv (h : Own K H L P) (x : Dv K P vs ds) : Own K H L (.dp vs ds :: P) := h.derive x
theorem Own.dv1 {v : V} {d : PyData} (h : Own K H L P) (x : Dv1 K P v d) : Own K H L (.dp [v] [d] :: P) := h.derive fun M z => .cons (x M z) .nil
theorem Own.all (h : Own K H L P) (x : Dv K P vs ds) : DpAll K H vs ds := (h.dv x).pdp List.mem_cons_self
theorem Own.one {v : V} {d : PyData} (h : Own K H L P) (x : Dv1 K P v d) : Dp K H v d := by
  cases (h.dv1 x).pdp List.mem_cons_self with
  | cons y _ => exact y
theorem Own.setL (h : Own K H L P) (m : At L a (.L ds) L') (e : upd H a (.lst vs) = H1) (x : Dv K P vs ds) : Own K H1 L' P := h.setO m e fun M q => ⟨vs, upd_same, x M q⟩
theorem Own.setS {φ : HO → Prop} (h : Own K H L P) (m : At L a (.such φ) L') (e : upd H a o = H1) (x : φ o) : Own K H1 L' P := h.setO m e fun _ _ => ⟨o, upd_same, x⟩
theorem Own.setD {kvs : List (Key × V)} {kds : List (Key × PyData)} (h : Own K H L P) (m : At L a (.D kds) L') (e : upd H a (.dK kvs) = H1) (k : kvs.map Prod.fst = kds.map Prod.fst) (x : Dv K P (kvs.map Prod.snd) (kds.map Prod.snd)) : Own K H1 L' P := h.setO m e fun M q => ⟨kvs, upd_same, k, x M q⟩
theorem Own.closeL (h : Own K H L P) (m : (a, Ob.raw (.lst vs)) ∈ L) (x : Dv K P vs ds) (m' : At L a (.L ds) L') : Own K H L' P := h.re m' fun M q hs hd => ⟨⟨vs, hd _ m, x M q⟩, q⟩
theorem Own.closeS {φ : HO → Prop} (h : Own K H L P) (m : (a, Ob.raw o) ∈ L) (x : φ o) (m' : At L a (.such φ) L') : Own K H L' P := h.re m' fun M q hs hd => ⟨⟨o, hd _ m, x⟩, q⟩
theorem Own.closeD {kvs : List (Key × V)} {kds : List (Key × PyData)} (h : Own K H L P) (m : (a, Ob.raw (.dK kvs)) ∈ L) (k : kvs.map Prod.fst = kds.map Prod.fst) (x : Dv K P (kvs.map Prod.snd) (kds.map Prod.snd)) (m' : At L a (.D kds) L') : Own K H L' P := h.re m' fun M q hs hd => ⟨⟨kvs, hd _ m, k, x M q⟩, q⟩
/-! ### blocks out of a list, and less -/
def Pk (L B R : List (Addr × Ob)) : Prop := L.Perm (B ++ R)
theorem Pk.one {p : Addr × Ob} : Pk (p :: R) [p] R := List.Perm.refl _
theorem Pk.here : Pk (B ++ R) B R := List.Perm.refl _
theorem Pk.all : Pk B B [] := by unfold Pk; rw [List.append_nil]
theorem Pk.skip1 {p : Addr × Ob} (h : Pk L B R) : Pk (p :: L) B (p :: R) := (h.cons p).trans List.perm_middle.symm
theorem Pk.skipB {A : List (Addr × Ob)} (h : Pk L B R) : Pk (A ++ L) B (A ++ R) := by
  unfold Pk at h ⊢
  refine (List.Perm.append_left A h).trans ?_
  rw [← List.append_assoc, ← List.append_assoc]
  exact List.Perm.append_right R List.perm_append_comm
/-- what stands by one word stands by another -/
def Ft (K : PySem.W.Frag) (P : List Pf) (o' o : Ob) : Prop := ∀ (M H : Hp) (a : Addr), (∀ q ∈ P, q.ok K M) → Hd K M H a o' → Hd K M H a o
theorem Ft.refl {o : Ob} : Ft K P o o := fun _ _ _ _ h => h
theorem Ft.eq {o' o : Ob} (e : o' = o) : Ft K P o' o := e ▸ Ft.refl
theorem Ft.lst {us vs : List V} (e : us = vs) : Ft K P (.raw (.lst us)) (.raw (.lst vs)) := e ▸ Ft.refl
theorem Ft.ins {C dx : Addr} {us vs : List (Str × V)} (e : us = vs) : Ft K P (.raw (.ins C dx us)) (.raw (.ins C dx vs)) := e ▸ Ft.refl
theorem Ft.dK {us vs : List (Key × V)} (e : us = vs) : Ft K P (.raw (.dK us)) (.raw (.dK vs)) := e ▸ Ft.refl
theorem Ft.toL (x : Dv K P vs ds) : Ft K P (.raw (.lst vs)) (.L ds) := fun M _ _ q h => ⟨vs, h, x M q⟩
theorem Ft.toS {φ : HO → Prop} {o : HO} (x : φ o) : Ft K P (.raw o) (.such φ) := fun _ _ _ _ h => ⟨o, h, x⟩
theorem Ft.toD {kvs : List (Key × V)} {kds : List (Key × PyData)} (k : kvs.map Prod.fst = kds.map Prod.fst) (x : Dv K P (kvs.map Prod.snd) (kds.map Prod.snd)) : Ft K P (.raw (.dK kvs)) (.D kds) := fun M _ _ q h => ⟨kvs, h, k, x M q⟩
theorem Ft.Le {ds es : List PyData} (e : ds = es) : Ft K P (.L ds) (.L es) := e ▸ Ft.refl
theorem Ft.De {ds es : List (Key × PyData)} (e : ds = es) : Ft K P (.D ds) (.D es) := e ▸ Ft.refl
theorem Ft.S {φ ψ : HO → Prop} (e : ∀ o, φ o → ψ o) : Ft K P (.such φ) (.such ψ) := fun _ _ _ _ ⟨o, h, x⟩ => ⟨o, h, e o x⟩
inductive Al (K : PySem.W.Frag) (P : List Pf) : List (Addr × Ob) → List (Addr × Ob) → Prop
  | nil : Al K P [] []
  | cons {a : Addr} {o' o : Ob} {L' L : List (Addr × Ob)} : Ft K P o' o → Al K P L' L → Al K P ((a, o') :: L') ((a, o) :: L)
theorem Al.refl : ∀ L : List (Addr × Ob), Al K P L L
  | [] => .nil
  | (_, _) :: t => .cons Ft.refl (Al.refl t)
theorem Al.app {A A' B B' : List (Addr × Ob)} (x : Al K P A A') (y : Al K P B B') : Al K P (A ++ B) (A' ++ B') := by
  induction x with
  | nil => exact y
  | cons f _ ih => exact .cons f ih
theorem Al.fst {A A' : List (Addr × Ob)} (x : Al K P A A') : A.map Prod.fst = A'.map Prod.fst := by
  induction x with
  | nil => rfl
  | cons f _ ih => rw [List.map_cons, List.map_cons, ih]
theorem Al.hd {A A' : List (Addr × Ob)} (x : Al K P A A') {M H : Hp} (q : ∀ q ∈ P, q.ok K M) (h : ∀ p ∈ A, Hd K M H p.1 p.2 ∧ M p.1 = none) : ∀ p ∈ A', Hd K M H p.1 p.2 ∧ M p.1 = none := by
  induction x with
  | nil => exact fun _ z => nomatch z
  | cons f _ ih =>
    intro p hp
    rcases List.mem_cons.mp hp with rfl | hp
    · have := h _ List.mem_cons_self
      exact ⟨f _ _ _ q this.1, this.2⟩
    · exact ih (fun p hp => h p (List.mem_cons_of_mem _ hp)) p hp
/-- L' out of L -/
def Sb (K : PySem.W.Frag) (P : List Pf) (L' L : List (Addr × Ob)) : Prop := ∃ L1 R, L.Perm (L1 ++ R) ∧ Al K P L1 L'
theorem Sb.refl (L : List (Addr × Ob)) : Sb K P L L := ⟨L, [], by rw [List.append_nil], Al.refl L⟩
theorem Sb.nil : Sb K P [] L := ⟨[], L, List.Perm.refl _, .nil⟩
theorem Sb.app (x : Pk L B R) (y : Sb K P L' R) : Sb K P (B ++ L') L := by
  obtain ⟨L1, z, e, al⟩ := y
  exact ⟨B ++ L1, z, x.trans (by rw [List.append_assoc]; exact List.Perm.append_left B e), Al.app (Al.refl B) al⟩
theorem Sb.cons {o' : Ob} (x : Pk L [(a, o')] R) (f : Ft K P o' ob) (y : Sb K P L' R) : Sb K P ((a, ob) :: L') L := by
  obtain ⟨L1, z, e, al⟩ := y
  exact ⟨(a, o') :: L1, z, x.trans (List.Perm.append_left [(a, o')] e), .cons f al⟩
theorem Sb.skip {p : Addr × Ob} (y : Sb K P L' L) : Sb K P L' (p :: L) := by
  obtain ⟨L1, z, e, al⟩ := y
  exact ⟨L1, p :: z, (e.cons p).trans List.perm_middle.symm, al⟩
theorem Sb.skipB {A : List (Addr × Ob)} (y : Sb K P L' L) : Sb K P L' (A ++ L) := by
  obtain ⟨L1, z, e, al⟩ := y
  refine ⟨L1, A ++ z, (List.Perm.append_left A e).trans ?_, al⟩
  rw [← List.append_assoc, ← List.append_assoc]
  exact List.Perm.append_right z List.perm_append_comm
def Ps (P' P : List Pf) : Prop := ∀ r ∈ P', r ∈ P
theorem Ps.refl : Ps P P := fun _ h => h
theorem Ps.nil : Ps [] P := fun _ h => nomatch h
theorem Ps.skip {q : Pf} (h : Ps P' P) : Ps P' (q :: P) := fun r hr => List.mem_cons_of_mem _ (h r hr)
theorem Ps.cons {q : Pf} (m : q ∈ P) (h : Ps P' P) : Ps (q :: P') P := fun r hr => (List.mem_cons.mp hr).elim (fun e => e ▸ m) (h r)
theorem Own.sub (h : Own K H L P) (s : Sb K P L' L) (q : Ps P' P) : Own K H L' P' := by
  obtain ⟨M, nd, hl, hs, hp⟩ := h.ex
  obtain ⟨L1, z, e, al⟩ := s
  have nd' := (e.map Prod.fst).nodup_iff.mp nd
  rw [List.map_append, List.nodup_append, al.fst] at nd'
  exact ⟨M, nd'.1, al.hd hp fun p hp' => hl p (e.mem_iff.mpr (List.mem_append.mpr (.inl hp'))), hs, fun r hr => hp r (q r hr)⟩
theorem Own.pick (h : Own K H L P) (m : Pk L B R) : Own K H (B ++ R) P := h.sub ⟨B ++ R, [], by rw [List.append_nil]; exact m, Al.refl _⟩ Ps.refl
/-- a flat value -/
def fv : PyData → V
  | .int i => .int i
  | .bool b => .bl b
  | .str x => .str x
  | _ => .non
def flatD : PyData → Bool
  | .int _ => true
  | .bool _ => true
  | .str _ => true
  | .none => true
  | _ => false
theorem dp_flat {M : Hp} : ∀ {d : PyData} {v : V}, Dp K M v d → flatD d = true → v = fv d
  | _, _, .non, _ => rfl
  | _, _, .bl _, _ => rfl
  | _, _, .int _, _ => rfl
  | _, _, .str _, _ => rfl
  | _, _, .lst _ _, h => nomatch h
  | _, _, .tup _ _, h => nomatch h
theorem dp_flats {M : Hp} : ∀ {vs : List V} {ds : List PyData}, DpAll K M vs ds → ds.all flatD = true → vs = ds.map fv
  | _, _, .nil, _ => rfl
  | _, _, .cons x y, h => by
    rw [List.all_cons, Bool.and_eq_true] at h
    rw [List.map_cons, ← dp_flat x h.1, ← dp_flats y h.2]
/-- a tuple of flat values opened -/
theorem Own.opn {v : V} {ds : List PyData} (h : Own K H L P) (x : Dv1 K P v (.tuple ds)) (hf : ds.all flatD = true := by rfl) : ∃ t, v = .ref t ∧ Own K H L (.sq t (ds.map fv) :: P) := by
  obtain ⟨M, nd, hl, hs, hp⟩ := h.ex
  cases x M hp with
  | @tup t xs _ hq ha =>
    refine ⟨t, rfl, M, nd, hl, hs, fun q hq' => ?_⟩
    rcases List.mem_cons.mp hq' with rfl | hq'
    · rw [← dp_flats ha hf]; exact hq
    · exact hp q hq'
/-- a list that is given up: it never changes any more -/
theorem Own.give (h : Own K H L P) (m : Pk L [(a, Ob.raw (.lst vs))] R) : Own K H R (.lst a vs :: P) := by
  have h2 : Own K H ((a, Ob.raw (.lst vs)) :: R) P := h.pick m
  obtain ⟨M, nd, hl, hs, hp⟩ := h2.ex
  rw [List.map_cons, List.nodup_cons] at nd
  have ha : H a = some (.lst vs) := (hl (a, Ob.raw (.lst vs)) List.mem_cons_self).1
  have ma : M a = none := (hl (a, Ob.raw (.lst vs)) List.mem_cons_self).2
  have sm : Same M (upd M a (.lst vs)) := same_upd ma
  refine ⟨upd M a (.lst vs), nd.2, fun q hq => ?_, fun b u hb => ?_, fun r hr => ?_⟩
  · have n : q.1 ≠ a := fun z => nd.1 (List.mem_map.mpr ⟨q, hq, z⟩)
    have := hl q (List.mem_cons_of_mem _ hq)
    exact ⟨this.1.same sm rfl, by rw [upd_ne n]; exact this.2⟩
  · by_cases z : b = a
    · subst z; rw [upd_same] at hb; rw [ha]; exact hb
    · rw [upd_ne z] at hb; exact hs _ _ hb
  · rcases List.mem_cons.mp hr with rfl | hr
    · exact (upd_same : upd M a (.lst vs) a = _)
    · exact r.same sm (hp r hr)
theorem Own.none_of (h : Own K H L P) (f : H p = none) : ∀ q ∈ L, q.1 ≠ p := fun q hq z => by
  obtain ⟨M, nd, hl, hs, hp⟩ := h.ex
  obtain ⟨u, hu⟩ := (hl q hq).1.some; rw [z, f] at hu; cases hu
/-- owned of nothing: a start -/
theorem Own.start {K : PySem.W.Frag} {H : Hp} : Own K H [] [] := ⟨fun _ => none, by simp, fun _ h => (nomatch h), fun _ _ h => (nomatch h), fun _ h => (nomatch h)⟩
theorem pg_trip {X : Cx} {i j l : Nat} {x y z : Str} {p1 p2 p3 pos : Pos} {kk : Nat} (hc : X.calm = true) (hN : X.N.Nodup) (hi : X.N[i]? = some x) (hj : X.N[j]? = some y) (hl : X.N[l]? = some z) (hx : Loc X.env.scope x) (hy : Loc X.env.scope y) (hz : Loc X.env.scope z)
    (hf : X.fn x = true ∨ X.env.scope.names.lookup x = some .local := by first | exact .inl rfl | exact .inr rfl | assumption) (hf2 : X.fn y = true ∨ X.env.scope.names.lookup y = some .local := by first | exact .inl rfl | exact .inr rfl | assumption) (hf3 : X.fn z = true ∨ X.env.scope.names.lookup z = some .local := by first | exact .inl rfl | exact .inr rfl | assumption)
    (hn : (assignEach [Expr.Name x p1, .Name y p2, .Name z p3] X.env).length = 3 := by rfl) (hst : (assignEach [Expr.Name x p1, .Name y p2, .Name z p3] X.env).findIdx? (·.1) = none := by rfl)
    (hs : (assignEach [Expr.Name x p1, .Name y p2, .Name z p3] X.env).map (·.2) = assign (.Name x p1) X.env :: (assignEach [Expr.Name y p2, .Name z p3] X.env).map (·.2) := by rfl)
    (hs2 : (assignEach [Expr.Name y p2, .Name z p3] X.env).map (·.2) = assign (.Name y p2) X.env :: (assignEach [Expr.Name z p3] X.env).map (·.2) := by rfl)
    (hs3 : (assignEach [Expr.Name z p3] X.env).map (·.2) = assign (.Name z p3) X.env :: (assignEach [] X.env).map (·.2) := by rfl) :
    PG X (.Tuple [.Name x p1, .Name y p2, .Name z p3] kk pos) (gTup X.K 3 (gCons (gName i) (gCons (gName j) (gCons (gName l) gNil)))) :=
  pg_tup hc (pgs_cons (pg_name hN hi hx hf) (pgs_cons (pg_name hN hj hy hf2) (pgs_cons (pg_name hN hl hz hf3) pgs_nil hs3) hs2) hs) hn hst
theorem kit_self' {K : PySem.W.Frag} {C : Addr} : PySem.W.kitOne K (.ref C) (.ref C) = some true := if_pos (beq_self_eq_true _)
/-! ### comprehensions -/
section
variable {g : TG} {te : TE} {tt : TT} {wv : List Nat} {σ : L2.St} {D : Addr} {Qd : Hp → Prop} {xs : List V}
theorem own_app {i : Nat} {y : V} {d : PyData} {vs : List V} (q' : Own K H ((D, .L ds) :: L) P) (ev : H D = some (.lst vs)) (dv : Dv1 K P y d) : Own K (upd H D (.lst (vs ++ [y]))) ((D, .L (ds ++ [d])) :: L) P := by
  refine q'.setU .head rfl fun M hp ho => ⟨vs ++ [y], upd_same, ?_⟩
  obtain ⟨vs', ev', dvs⟩ := ho _ List.mem_cons_self
  rw [ev] at ev'
  cases ev'
  exact L2.DpAll.app' dvs (.cons (dv M hp) .nil)
/-- a new list of data, over any walk -/
theorem lc_ownW {J : It} {n : Nat} {G : Hp → Prop} {Y : Nat → Hp → V → Hp → Prop} (w : Walk J n G Y) (ds : List PyData) (h : Own K H1 L P) (hD : H1 D = none) (hx : n = ds.length) (hz : n ≤ 10000)
    (ha : ∀ (H : Hp) (L' : List (Addr × Ob)) (P' : List Pf), (∀ p ∈ L, p ∈ L') → Ps P P' → Own K H L' P' → G H)
    (hs : ∀ (i : Nat) (x : V) (d : PyData) (H H' : Hp) (P' : List Pf) (Q : VK), i < n → Y i H x H' → ds[i]? = some d → Ps P P' → Own K H ((D, .L (ds.take i)) :: L) P' →
      (∀ (y : V) (H'' : Hp) (P'' : List Pf), Ps P' P'' → Own K H'' ((D, .L (ds.take i)) :: L) P'' → Dv1 K P'' y d → Q y H'') → g x (wipe σ wv) H' fun σ2 H2 => wipe σ2 wv = wipe σ wv ∧ te σ2 H2 Q)
    (hd : ∀ (H' : Hp) (P' : List Pf), Ps P P' → Own K H' ((D, .L ds) :: L) P' → Qd H') :
    ∃ W : Nat → Nat → Hp → Prop, (∃ m, W 0 m (upd H1 D (.lst []))) ∧ ∀ i m H, W i m H →
      (J.stop i H ∧ Qd H) ∨ (J.go i H ∧ ∃ Nx : Hp → Prop, (∀ H', Nx H' → ∃ m', m' < m ∧ W (i + 1) m' H') ∧ ∀ x H', J.yld i H x H' → g x (wipe σ wv) H' fun σ2 H2 => wipe σ2 wv = wipe σ wv ∧ tYes σ2 H2 fun b H3 =>
        if b = true then te σ2 H3 fun y H4 => ∃ acc, H4 D = some (.lst acc) ∧ acc.length < sizeLine ∧ Nx (upd H4 D (.lst (acc ++ [y]))) else Nx H3) := by
  refine lc_it w (fun i H => ∃ P', Ps P P' ∧ Own K H ((D, .L (ds.take i)) :: L) P') ⟨P, Ps.refl, ?_⟩ (fun i H _ ⟨P', s, q⟩ => ha H _ P' (fun p m => List.mem_cons_of_mem _ m) s q) (fun i x H H' hi ⟨P', s, q⟩ y => ?_) (fun H ⟨P', s, q⟩ => hd H P' s (by rw [List.take_of_length_le (by omega)] at q; exact q))
  · have h2 := h.new hD (o := .lst []) rfl
    exact h2.closeL (vs := []) List.mem_cons_self (by rw [List.take_zero]; exact Dv.nil) .head
  · have hi2 : i < ds.length := by omega
    refine hs i x ds[i] H H' P' _ hi y (List.getElem?_eq_getElem hi2) s q (fun y H'' P'' s' q' dv => ?_)
    obtain ⟨vs, ev, dvs⟩ := q'.lst List.mem_cons_self
    have len := dvs.len
    rw [List.length_take] at len
    refine ⟨vs, ev, size_lt (by omega), P'', fun r m => s' r (s r m), ?_⟩
    rw [List.take_add_one, List.getElem?_eq_getElem hi2]
    exact own_app (i := i) q' ev dv
/-- the same of flat values, as they are -/
theorem lc_rawW {J : It} {n : Nat} {G : Hp → Prop} {Y : Nat → Hp → V → Hp → Prop} (w : Walk J n G Y) (ys : List V) (h : Own K H1 L P) (hD : H1 D = none) (hx : n = ys.length) (hz : n ≤ 10000)
    (ha : ∀ (H : Hp) (L' : List (Addr × Ob)) (P' : List Pf), (∀ p ∈ L, p ∈ L') → Ps P P' → Own K H L' P' → G H)
    (hs : ∀ (i : Nat) (x y : V) (H H' : Hp) (P' : List Pf) (Q : VK), i < n → Y i H x H' → ys[i]? = some y → Ps P P' → Own K H ((D, .raw (.lst (ys.take i))) :: L) P' →
      (∀ (H'' : Hp) (P'' : List Pf), Ps P' P'' → Own K H'' ((D, .raw (.lst (ys.take i))) :: L) P'' → Q y H'') → g x (wipe σ wv) H' fun σ2 H2 => wipe σ2 wv = wipe σ wv ∧ te σ2 H2 Q)
    (hd : ∀ (H' : Hp) (P' : List Pf), Ps P P' → Own K H' ((D, .raw (.lst ys)) :: L) P' → Qd H') :
    ∃ W : Nat → Nat → Hp → Prop, (∃ m, W 0 m (upd H1 D (.lst []))) ∧ ∀ i m H, W i m H →
      (J.stop i H ∧ Qd H) ∨ (J.go i H ∧ ∃ Nx : Hp → Prop, (∀ H', Nx H' → ∃ m', m' < m ∧ W (i + 1) m' H') ∧ ∀ x H', J.yld i H x H' → g x (wipe σ wv) H' fun σ2 H2 => wipe σ2 wv = wipe σ wv ∧ tYes σ2 H2 fun b H3 =>
        if b = true then te σ2 H3 fun y H4 => ∃ acc, H4 D = some (.lst acc) ∧ acc.length < sizeLine ∧ Nx (upd H4 D (.lst (acc ++ [y]))) else Nx H3) := by
  refine lc_it w (fun i H => ∃ P', Ps P P' ∧ Own K H ((D, .raw (.lst (ys.take i))) :: L) P') ⟨P, Ps.refl, ?_⟩ (fun i H _ ⟨P', s, q⟩ => ha H _ P' (fun p m => List.mem_cons_of_mem _ m) s q) (fun i x H H' hi ⟨P', s, q⟩ y => ?_) (fun H ⟨P', s, q⟩ => hd H P' s (by rw [List.take_of_length_le (by omega)] at q; exact q))
  · rw [List.take_zero]; exact h.new hD rfl
  · have hi2 : i < ys.length := by omega
    refine hs i x ys[i] H H' P' _ hi y (List.getElem?_eq_getElem hi2) s q (fun H'' P'' s' q' => ?_)
    refine ⟨ys.take i, q'.raw List.mem_cons_self, size_lt (by rw [List.length_take]; omega), P'', fun r m => s' r (s r m), ?_⟩
    rw [List.take_add_one, List.getElem?_eq_getElem hi2]
    exact q'.set .head rfl
/-- sifted: those of zs that t takes, as they are; tt tells t, te the thing -/
theorem lc_siftW {α : Type} {J : It} {G : Hp → Prop} {Y : Nat → Hp → V → Hp → Prop} (zs : List α) (f : α → V) (t : α → Bool) (w : Walk J zs.length G Y) (h : Own K H1 L P) (hD : H1 D = none) (hz : zs.length ≤ 10000)
    (ha : ∀ (H : Hp) (L' : List (Addr × Ob)) (P' : List Pf), (∀ p ∈ L, p ∈ L') → Ps P P' → Own K H L' P' → G H)
    (hs : ∀ (i : Nat) (z : α) (x : V) (H H' : Hp) (P' : List Pf) (ys : List V) (Qn : Hp → Prop) (Qy : VK), zs[i]? = some z → Y i H x H' → Ps P P' → Own K H ((D, .raw (.lst ys)) :: L) P' →
      (t z = false → ∀ (H'' : Hp) (P'' : List Pf), Ps P' P'' → Own K H'' ((D, .raw (.lst ys)) :: L) P'' → Qn H'') →
      (t z = true → ∀ (H'' : Hp) (P'' : List Pf), Ps P' P'' → Own K H'' ((D, .raw (.lst ys)) :: L) P'' → Qy (f z) H'') → g x (wipe σ wv) H' fun σ2 H2 => wipe σ2 wv = wipe σ wv ∧ tt σ2 H2 fun b H3 => if b = true then te σ2 H3 Qy else Qn H3)
    (hd : ∀ (H' : Hp) (P' : List Pf), Ps P P' → Own K H' ((D, .raw (.lst ((zs.filter t).map f))) :: L) P' → Qd H') :
    ∃ W : Nat → Nat → Hp → Prop, (∃ m, W 0 m (upd H1 D (.lst []))) ∧ ∀ i m H, W i m H →
      (J.stop i H ∧ Qd H) ∨ (J.go i H ∧ ∃ Nx : Hp → Prop, (∀ H', Nx H' → ∃ m', m' < m ∧ W (i + 1) m' H') ∧ ∀ x H', J.yld i H x H' → g x (wipe σ wv) H' fun σ2 H2 => wipe σ2 wv = wipe σ wv ∧ tt σ2 H2 fun b H3 =>
        if b = true then te σ2 H3 fun y H4 => ∃ acc, H4 D = some (.lst acc) ∧ acc.length < sizeLine ∧ Nx (upd H4 D (.lst (acc ++ [y]))) else Nx H3) := by
  refine lc_it w (fun i H => ∃ P', Ps P P' ∧ Own K H ((D, .raw (.lst (((zs.take i).filter t).map f))) :: L) P') ⟨P, Ps.refl, ?_⟩ (fun i H _ ⟨P', s, q⟩ => ha H _ P' (fun p m => List.mem_cons_of_mem _ m) s q) (fun i x H H' hi ⟨P', s, q⟩ y => ?_) (fun H ⟨P', s, q⟩ => hd H P' s (by rw [List.take_of_length_le (by omega)] at q; exact q))
  · rw [List.take_zero]; exact h.new hD rfl
  · have et : zs.take (i + 1) = zs.take i ++ [zs[i]] := by rw [List.take_add_one, List.getElem?_eq_getElem hi]; rfl
    refine hs i zs[i] x H H' P' _ _ _ (List.getElem?_eq_getElem hi) y s q (fun tn H'' P'' s' q' => ⟨P'', fun r m => s' r (s r m), ?_⟩) (fun ty H'' P'' s' q' => ?_)
    · rw [et, List.filter_append, List.filter_cons, tn]; simpa using q'
    · refine ⟨_, q'.raw List.mem_cons_self, size_lt (by rw [List.length_map]; exact Nat.le_trans (List.length_filter_le _ _) (by rw [List.length_take]; omega)), P'', fun r m => s' r (s r m), ?_⟩
      have e2 : ((zs.take (i + 1)).filter t).map f = ((zs.take i).filter t).map f ++ [f zs[i]] := by rw [et, List.filter_append, List.filter_cons, ty]; simp
      rw [e2]
      exact q'.set .head rfl
end
/-! ### the pot -/
def PotO (o : HO) : Prop := ∃ x y : Int, o = .lst [.int x, .int y] ∧ 0 ≤ x ∧ 0 ≤ y ∧ y < 4294967296
def pt (a : Addr) : List (Addr × Ob) := [(a, .such PotO)]
/-- called with the pot and how many: a number below that, and the pot is still one -/
def spDrw (K : PySem.W.Frag) : Sp := fun vs H Q _ => ∃ (a : Addr) (n : Int) (R : List (Addr × Ob)) (P : List Pf), vs = [.ref a, .int n] ∧ Own K H (pt a ++ R) P ∧ 0 < n ∧ n < 1073741824 ∧
  ∀ (d : Int) (H' : Hp), 0 ≤ d → d < n → Own K H' (pt a ++ R) P → Q (.int d) H'
end Hx

set_option Elab.async false
set_option linter.all false
set_option maxRecDepth 100000
set_option maxHeartbeats 4000000
/-! cuts: what holds behind a statement, behind a test, is said once for all ways that come there -/
namespace Hx
open PySem PySem.Spec PyProof.Rows L2
def tMid (t : TS) : TS := fun D σ H => Stop (∃ Mid : L2.St → Hp → Prop, t { D with nx := Mid } σ H ∧ ∀ σ' H', Mid σ' H' → D.nx σ' H')
theorem ps_mid {X : Cx} {st : Stmt} {t : TS} (h : PS X st t) : PS X st (tMid t) := by
  refine ⟨fun pins s σ H D I q => ?_⟩
  obtain ⟨Mid, q, r⟩ := q.h
  refine thn (h.run pins s σ H { D with nx := Mid } I q) fun f s1 q => ?_
  cases f with
  | next =>
    obtain ⟨σ', H', I', q⟩ := q
    exact ⟨σ', H', I', r _ _ q⟩
  | ret v => exact q
  | brk => exact q
  | cont => exact q
def tTMid (t : TT) : TT := fun σ H Q => Stop (∃ Mid : Bool → Hp → Prop, t σ H Mid ∧ ∀ b H', Mid b H' → Q b H')
theorem pt_mid {X : Cx} {c : Expr} {t : TT} (h : PT X c t) : PT X c (tTMid t) := by
  refine ⟨fun pins s σ H Q I q => ?_⟩
  obtain ⟨Mid, q, r⟩ := q.h
  refine thn (h.run pins s σ H Mid I q) fun d s1 q => ?_
  obtain ⟨H1, I1, q⟩ := q
  exact ⟨H1, I1, r _ _ q⟩
def tEMid (t : TE) : TE := fun σ H Q => Stop (∃ Mid : VK, t σ H Mid ∧ ∀ v H', Mid v H' → Q v H')
theorem pe_mid {X : Cx} {e : Expr} {t : TE} (h : PE X e t) : PE X e (tEMid t) := by
  refine ⟨fun pins s σ H Q I q => ?_⟩
  obtain ⟨Mid, q, r⟩ := q.h
  refine thn (h.run pins s σ H Mid I q) fun d s1 q => ?_
  obtain ⟨v, H1, I1, rv, q⟩ := q
  exact ⟨v, H1, I1, rv, r _ _ q⟩
theorem Ps.trans {P P' P'' : List Pf} (h : Ps P P') (k : Ps P' P'') : Ps P P'' := fun r hr => k r (h r hr)
end Hx

set_option Elab.async false
set_option linter.all false
set_option maxRecDepth 100000
set_option maxHeartbeats 4000000
/-! what repr asks of nested tuples and lists of small things; sorted lists of places -/
namespace Hx
open PySem PySem.Spec PyProof.Rows L2
structure Sh (k b : Nat) (d : PyData) : Prop where
  sw : d.showable = true
  nd : d.hasDict = false
  dp : d.depth ≤ k
  ln : d.shown.length ≤ b
theorem Sh.mono {k b k' b' : Nat} {d : PyData} (x : Sh k b d) (h1 : k ≤ k') (h2 : b ≤ b') : Sh k' b' d := ⟨x.sw, x.nd, Nat.le_trans x.dp h1, Nat.le_trans x.ln h2⟩
theorem sh_num {n : Int} (h : 0 ≤ n ∧ n < 10 ^ 20) : Sh 0 20 (.int n) := ⟨by rw [PyData.showable]; exact decide_eq_true (log_small h), by rw [PyData.hasDict], by simp [PyData.depth], by
  rw [PyData.shown]; exact toString_length_le h.1 (by decide : 0 < 20) h.2⟩
theorem sh_non : Sh 0 20 .none := ⟨by rw [PyData.showable], by rw [PyData.hasDict], by simp [PyData.depth], by rw [PyData.shown]; decide⟩
theorem sh_all {k b : Nat} : ∀ {ds : List PyData}, (∀ d ∈ ds, Sh k b d) → PyData.showableAll ds = true ∧ PyData.hasDictAll ds = false ∧ PyData.depthAll ds ≤ k ∧ piled (PyData.shownAll ds) ≤ (b + 2) * ds.length
  | [], _ => ⟨rfl, rfl, by simp [PyData.depthAll], Nat.le_refl _⟩
  | d :: r, h => by
    obtain ⟨i1, i2, i3, i4⟩ := sh_all (ds := r) fun x hx => h x (List.mem_cons_of_mem _ hx)
    have x := h d List.mem_cons_self
    refine ⟨by rw [PyData.showableAll, x.sw, i1]; rfl, by rw [PyData.hasDictAll, x.nd, i2]; rfl, by rw [PyData.depthAll]; exact Nat.max_le.mpr ⟨x.dp, i3⟩, ?_⟩
    rw [PyData.shownAll, piled_cons, List.length_cons, Nat.mul_succ]
    have := x.ln
    omega
theorem sh_tup {k b : Nat} (m : Nat) {ds : List PyData} (h : ∀ d ∈ ds, Sh k b d) (hm : ds.length ≤ m) : Sh (k + 1) ((b + 2) * m + 3) (.tuple ds) := by
  obtain ⟨i1, i2, i3, i4⟩ := sh_all h
  refine ⟨by rw [PyData.showable]; exact i1, by rw [PyData.hasDict]; exact i2, by rw [PyData.depth]; omega, ?_⟩
  have i5 : (b + 2) * ds.length ≤ (b + 2) * m := Nat.mul_le_mul_left _ hm
  rw [PyData.shown]
  unfold tupleText
  rw [strLen_append, strLen_append]
  have e1 : (("(" : String) : Str).length = 1 := rfl
  have e2 : ∀ c : Bool, ((if c = true then ",)" else ")" : String) : Str).length ≤ 2 := fun c => by cases c <;> decide
  have e3 : (Str.join ", " (PyData.shownAll ds)).length ≤ piled (PyData.shownAll ds) := by
    by_cases z : PyData.shownAll ds = []
    · rw [z]; exact Nat.le_refl 0
    · have := join_length_add _ z
      omega
  have := e2 ((PyData.shownAll ds).length == 1)
  rw [e1]
  omega
/-- a sorted list of the places below m, each once -/
theorem sorted_range {ns xs : List Int} {m : Nat} (hp : ns.Perm xs) (hs : ns.Pairwise (· ≤ ·)) (nd : xs.Nodup) (hl : xs.length = m) (hb : ∀ x ∈ xs, 0 ≤ x ∧ x < m) : ns = (List.range m).map fun i : Nat => (i : Int) := by
  have hn : ns.Nodup := hp.symm.nodup nd
  have h2 : ns.Pairwise (· < ·) := (hs.and hn).imp fun {a b} h => by have := h.1; have h3 : a ≠ b := h.2; omega
  have hb2 : ∀ x ∈ ns, 0 ≤ x ∧ x < m := fun x hx => hb x (hp.mem_iff.mp hx)
  have hl2 : ns.length = m := hp.length_eq.trans hl
  -- a rising list of so many below m
  have key : ∀ (ns : List Int) (a m : Int), ns.Pairwise (· < ·) → (∀ x ∈ ns, a ≤ x ∧ x < m) → (ns.length : Int) = m - a → ∀ i (h : i < ns.length), ns[i] = a + i := by
    intro ns
    induction ns with
    | nil => intro a m _ _ _ i h; simp at h
    | cons y r ih =>
      intro a m hs hb hl i h
      obtain ⟨h1, h2⟩ := List.pairwise_cons.mp hs
      have hy := hb y List.mem_cons_self
      have gap : ∀ (r : List Int) (y m : Int), r.Pairwise (· < ·) → (∀ x ∈ r, y < x ∧ x < m) → (r.length : Int) ≤ m - y - 1 ∨ r = [] := by
        intro r
        induction r with
        | nil => intro _ _ _ _; exact .inr rfl
        | cons z q ih2 =>
          intro y m hs hb
          obtain ⟨g1, g2⟩ := List.pairwise_cons.mp hs
          have hz := hb z List.mem_cons_self
          left
          rcases ih2 z m g2 (fun x hx => ⟨g1 x hx, (hb x (List.mem_cons_of_mem _ hx)).2⟩) with q1 | q1
          · rw [List.length_cons]; omega
          · rw [q1]; simp; omega
      have hya : y = a := by
        rw [List.length_cons] at hl
        rcases gap r y m h2 (fun x hx => ⟨h1 x hx, (hb x (List.mem_cons_of_mem _ hx)).2⟩) with q1 | q1
        · omega
        · rw [q1] at hl; simp at hl; omega
      subst hya
      cases i with
      | zero => simp
      | succ j =>
        rw [List.getElem_cons_succ, ih (y + 1) m h2 (fun x hx => ⟨by have := h1 x hx; omega, (hb x (List.mem_cons_of_mem _ hx)).2⟩) (by rw [List.length_cons] at hl; omega)]
        omega
  apply List.ext_getElem (by simp [hl2])
  intro i h3 h4
  rw [key ns 0 m h2 hb2 (by omega) i h3]
  simp
/-! ### an own == beside a tuple -/
theorem op_eqOwnT {X : Cx} {n : Nat} {C f : Addr} {fd : FuncData} {ps : List Str} {sp : Sp} (F : FnOk X.prog X.w X.K X.mg X.base CX0 n f fd ps sp) (hr : Room n X.A)
    (hs : PySem.W.findIn X.K (.ref C) "__eq__" = some (some (.ref f))) (hf : PySem.W.isFn X.K (.ref f) = true) (hb : Binds X.K fd ps []) (hsl : PySem.W.subIn X.K (.type "tuple") (.ref C) = some false) :
    OpR X (compareOp .Eq) (fun x y H Q => ∃ a b dx fs xs, x = .ref a ∧ y = .ref b ∧ H a = some (.ins C dx fs) ∧ H b = some (.tup xs) ∧ sp [.ref a, .ref b] H (fun v H' => ∃ c, v = .bl c ∧ Q (.bl c) H') (fun _ _ _ => False)) := by
  intro pins s σ H x y v u Q I rx ry h
  obtain ⟨a, b, dx, fs, xs, rfl, rfl, ha, hb', hsp⟩ := h
  cases rx
  cases ry
  obtain ⟨mA, J, _⟩ := ins_get I.hok ha
  obtain ⟨od, J, _⟩ := J.look
  obtain ⟨_, _, nn, _, h1, hc, _⟩ := (show ObjOk X.prog X.w H s.heap b (.tup xs) from I.hok b _ hb')
  obtain ⟨m, hF⟩ := I.fr
  have hu := hr.un
  refine PySem.W.cmp_K (op := .Eq) (tb := .type "tuple") (by omega) hF I.ok.mod.kin J (fun A Q E s k q => wpAny_typeOf_ref (k _ _ h1) (by rw [hc]; exact q)) (by simp [PySem.W.notFirst, hsl]) hs hf ?_
  have hl := F.len _ _ _ _ hsp
  have r2 : Vals [V.ref a, V.ref b] [Value.ref a, Value.ref b] := .cons rfl (.cons rfl .nil)
  have hB : BindsTo s fd ⟨[.ref a, .ref b], []⟩ (ps.zip [.ref a, .ref b]) := by
    have := hb s [.ref a, .ref b] I.kIn (by simpa using hl)
    simpa using this
  refine wpAny_call (codeAny_mono (F.run X.A X.stack s H ⟨[.ref a, .ref b], []⟩ [.ref a, .ref b] [.ref a, .ref b] _ _ hr I.env0 hB r2 hsp) fun r s' hq => ?_)
  match r, hq with
  | .ok (.ret w), hq =>
    obtain ⟨z, H', I', rz, c, rfl, q⟩ := I.after hq
    cases rz
    exact ⟨.bl c, H', I', rfl, q⟩
  | .error e, hq => exact False.elim hq
  | .ok .next, hq => exact False.elim hq
  | .ok .brk, hq => exact False.elim hq
  | .ok .cont, hq => exact False.elim hq
theorem kit_notT {K : PySem.W.Frag} {C : Addr} (h1 : PySem.W.isClsIn K C = true) (h2 : PySem.W.typeIn K (.ref C) = some (.type "type")) (h3 : PySem.W.subIn K (.type "tuple") (.ref C) = some false) : PySem.W.kitOne K (.type "tuple") (.ref C) = some false := by
  have e : ((PySem.W.clsIn K C).isSome && PySem.W.typeIn K (.ref C) == some (.type "type")) = true := by
    have h1' : (PySem.W.clsIn K C).isSome = true := h1
    rw [h1', h2] <;> rfl
  show (if ((Value.type "tuple" == .ref C) = true) then some true else (if ((PySem.W.clsIn K C).isSome && PySem.W.typeIn K (.ref C) == some (.type "type")) = true then PySem.W.subIn K (.type "tuple") (.ref C) else none)) = some false
  rw [if_neg (by intro z; cases z), if_pos e]
  exact h3
end Hx

set_option Elab.async false
set_option linter.all false
set_option maxRecDepth 100000
set_option maxHeartbeats 4000000
/-! owned heaps beside promises of the elder sort (Same, But) -/
namespace Hx
open PySem PySem.Spec PyProof.Rows L2
variable {K : PySem.W.Frag} {H H' : Hp} {L L' : List (Addr × Ob)} {P : List Pf} {a x l : Addr} {o u : HO} {ob : Ob}
theorem Own.same (h : Own K H L P) (s : Same H H') : Own K H' L P := by
  obtain ⟨M, nd, hl, hs, hp⟩ := h.ex
  refine ⟨M, nd, fun p hp' => ?_, fun b v e => s _ _ (hs _ _ e), hp⟩
  obtain ⟨v, hv⟩ := (hl p hp').1.some
  exact ⟨(hl p hp').1.same (L2.Same.refl _) ((s _ _ hv).trans hv.symm), (hl p hp').2⟩
theorem Own.but (h : Own K H L P) (m : At L a (.raw o) L') (b : But a H H') (e : H' a = some o) : Own K H' L' P := by
  obtain ⟨M, nd, hl, hs, hp⟩ := h.ex
  obtain ⟨y, o0, z, rfl, rfl⟩ := m.parts
  have ma : M a = none := (hl (a, o0) (by simp)).2
  have nd' := nd
  rw [List.map_append, List.map_cons, List.nodup_append, List.nodup_cons] at nd'
  have na : ∀ q, (q ∈ y ∨ q ∈ z) → q.1 ≠ a := fun q hq w => by
    rcases hq with hq | hq
    · exact nd'.2.2 q.1 (List.mem_map_of_mem hq) a List.mem_cons_self w
    · exact nd'.2.1.1 (List.mem_map.mpr ⟨q, hq, w⟩)
  refine ⟨M, by rw [List.map_append, List.map_cons] at nd ⊢; exact nd, fun q hq => ?_, fun c v hb => ?_, hp⟩
  · have old : (q ∈ y ∨ q ∈ z) → Hd K M H' q.1 q.2 ∧ M q.1 = none := fun w => by
      have := hl q (by rcases w with w | w <;> simp [w])
      obtain ⟨v, hv⟩ := this.1.some
      exact ⟨this.1.same (L2.Same.refl _) ((b _ _ (na q w) hv).trans hv.symm), this.2⟩
    rcases List.mem_append.mp hq with hq | hq
    · exact old (.inl hq)
    · rcases List.mem_cons.mp hq with rfl | hq
      · exact ⟨e, ma⟩
      · exact old (.inr hq)
  · exact b _ _ (fun w => by rw [w, ma] at hb; cases hb) (hs _ _ hb)
/-- x made, with l new -/
theorem Own.butNew {o2 : HO} (h : Own K H ((x, ob) :: L) P) (b : But x H H') (e : H' x = some o) (n : H l = none) (e2 : H' l = some o2) : Own K H' ((x, .raw o) :: (l, .raw o2) :: L) P := by
  have h2 : Own K H' ((x, .raw o) :: L) P := h.but .head b e
  have nl : ∀ q ∈ (x, ob) :: L, q.1 ≠ l := h.none_of n
  obtain ⟨M0, nd0, hl0, hs0, hp0⟩ := h.ex
  have ml0 : M0 l = none := by
    cases w : M0 l with
    | none => rfl
    | some v => rw [hs0 _ _ w] at n; cases n
  have nx : ∀ q ∈ L, q.1 ≠ x := fun q hq w => by
    rw [List.map_cons, List.nodup_cons] at nd0
    exact nd0.1 (List.mem_map.mpr ⟨q, hq, w⟩)
  have mx : M0 x = none := (hl0 (x, ob) List.mem_cons_self).2
  rw [List.map_cons, List.nodup_cons] at nd0
  refine ⟨M0, ?_, fun q hq => ?_, fun c v hb => b _ _ (fun w => by rw [w, mx] at hb; cases hb) (hs0 _ _ hb), hp0⟩
  · rw [List.map_cons, List.map_cons, List.nodup_cons, List.nodup_cons]
    refine ⟨fun w => ?_, fun w => ?_, nd0.2⟩
    · rcases List.mem_cons.mp w with w | w
      · exact nl (x, ob) List.mem_cons_self w
      · exact nd0.1 w
    · obtain ⟨q, hq, w⟩ := List.mem_map.mp w
      exact nl q (List.mem_cons_of_mem _ hq) w
  · rcases List.mem_cons.mp hq with rfl | hq
    · exact ⟨e, mx⟩
    · rcases List.mem_cons.mp hq with rfl | hq
      · exact ⟨e2, ml0⟩
      · have := hl0 q (List.mem_cons_of_mem _ hq)
        obtain ⟨v, hv⟩ := this.1.some
        exact ⟨this.1.same (L2.Same.refl _) ((b _ _ (nx q hq) hv).trans hv.symm), this.2⟩
/-- new things that an elder promise hands back are owned from now on -/
theorem Own.adopt {t : Addr} (h : Own K H L P) (s : Same H H') (n : H t = none) (e : H' t = some o) : Own K H' ((t, .raw o) :: L) P := by
  have np := h.none_of n
  obtain ⟨M, nd, hl, hs, hp⟩ := h.ex
  have mt : M t = none := by
    cases w : M t with
    | none => rfl
    | some v => rw [hs _ _ w] at n; cases n
  obtain ⟨M', nd', hl', hs', hp'⟩ := (h.same s).ex
  refine ⟨M, ?_, fun q hq => ?_, fun b v w => s _ _ (hs _ _ w), hp⟩
  · rw [List.map_cons, List.nodup_cons]
    exact ⟨fun w => by obtain ⟨q, hq, w⟩ := List.mem_map.mp w; exact np q hq w, nd⟩
  · rcases List.mem_cons.mp hq with rfl | hq
    · exact ⟨e, mt⟩
    · obtain ⟨v, hv⟩ := (hl q hq).1.some
      exact ⟨(hl q hq).1.same (L2.Same.refl _) ((s _ _ hv).trans hv.symm), (hl q hq).2⟩
theorem Own.adopt2 {t ll : Addr} {vs xs : List V} (h : Own K H L P) (s : Same H H') (n1 : H t = none) (n2 : H ll = none) (e1 : H' t = some (.tup vs)) (e2 : H' ll = some (.lst xs)) : Own K H' ((t, .raw (.tup vs)) :: (ll, .raw (.lst xs)) :: L) P := by
  have h2 := h.adopt s n2 e2
  have np := h.none_of n1
  have ne : ll ≠ t := fun z => by rw [z, e1] at e2; cases e2
  obtain ⟨M, nd, hl, hs, hp⟩ := h.ex
  have mt : ∀ {q : Addr}, H q = none → M q = none := fun {q} n => by
    cases w : M q with
    | none => rfl
    | some v => rw [hs _ _ w] at n; cases n
  have nl := h.none_of n2
  refine ⟨M, ?_, fun q hq => ?_, fun b v w => s _ _ (hs _ _ w), hp⟩
  · rw [List.map_cons, List.map_cons, List.nodup_cons, List.nodup_cons]
    refine ⟨fun w => ?_, fun w => by obtain ⟨q, hq, w⟩ := List.mem_map.mp w; exact nl q hq w, nd⟩
    rcases List.mem_cons.mp w with w | w
    · exact ne w.symm
    · obtain ⟨q, hq, w⟩ := List.mem_map.mp w
      exact np q hq w
  · rcases List.mem_cons.mp hq with rfl | hq
    · exact ⟨e1, mt n1⟩
    · rcases List.mem_cons.mp hq with rfl | hq
      · exact ⟨e2, mt n2⟩
      · obtain ⟨v, hv⟩ := (hl q hq).1.some
        exact ⟨(hl q hq).1.same (L2.Same.refl _) ((s _ _ hv).trans hv.symm), (hl q hq).2⟩
end Hx

set_option Elab.async false
set_option linter.all false
set_option maxRecDepth 100000
set_option maxHeartbeats 8000000

namespace K36
open PySem PySem.Spec PyProof.Rows L2 Hx
def top (i : Nat) : Stmt := PySem.Challenge.pw_orderlycore_k36_whole_translations.main.body.getD i (.Pass ⟨0, 0, 0, 0⟩)
abbrev s_is_integer : Stmt := top 14
theorem sc_is_integer : FnScope ["value"] ["value"] (defScope s_is_integer) := ⟨rfl, rfl, rfl, by decide +kernel, rfl, by decide +kernel, by decide +kernel⟩
abbrev s_is_between : Stmt := top 15
theorem sc_is_between : FnScope ["value", "least", "most"] ["value", "least", "most"] (defScope s_is_between) := ⟨rfl, rfl, rfl, by decide +kernel, rfl, by decide +kernel, by decide +kernel⟩
abbrev s_is_word : Stmt := top 23
theorem sc_is_word : FnScope ["value"] ["value"] (defScope s_is_word) := ⟨rfl, rfl, rfl, by decide +kernel, rfl, by decide +kernel, by decide +kernel⟩
abbrev s_is_address : Stmt := top 24
theorem sc_is_address : FnScope ["value"] ["value"] (defScope s_is_address) := ⟨rfl, rfl, rfl, by decide +kernel, rfl, by decide +kernel, by decide +kernel⟩
abbrev s_is_place : Stmt := top 25
theorem sc_is_place : FnScope ["value"] ["value"] (defScope s_is_place) := ⟨rfl, rfl, rfl, by decide +kernel, rfl, by decide +kernel, by decide +kernel⟩
abbrev s_need_word : Stmt := top 26
theorem sc_need_word : FnScope ["value"] ["value"] (defScope s_need_word) := ⟨rfl, rfl, rfl, by decide +kernel, rfl, by decide +kernel, by decide +kernel⟩
abbrev s_need_address : Stmt := top 27
theorem sc_need_address : FnScope ["value"] ["value"] (defScope s_need_address) := ⟨rfl, rfl, rfl, by decide +kernel, rfl, by decide +kernel, by decide +kernel⟩
abbrev s_need_bits : Stmt := top 28
theorem sc_need_bits : FnScope ["word", "low", "many"] ["word", "low", "many"] (defScope s_need_bits) := ⟨rfl, rfl, rfl, by decide +kernel, rfl, by decide +kernel, by decide +kernel⟩
abbrev s_bits : Stmt := top 29
theorem sc_bits : FnScope ["word", "low", "many"] ["word", "low", "many"] (defScope s_bits) := ⟨rfl, rfl, rfl, by decide +kernel, rfl, by decide +kernel, by decide +kernel⟩
abbrev s_Memory_init : Stmt := inClass (top 32) 0
theorem sc_Memory_init : FnScope ["self"] ["self"] (defScope s_Memory_init) := ⟨rfl, rfl, rfl, by decide +kernel, rfl, by decide +kernel, by decide +kernel⟩
abbrev s_Memory_word : Stmt := inClass (top 32) 1
theorem sc_Memory_word : FnScope ["self", "place"] ["self", "place"] (defScope s_Memory_word) := ⟨rfl, rfl, rfl, by decide +kernel, rfl, by decide +kernel, by decide +kernel⟩
abbrev s_Memory_put : Stmt := inClass (top 32) 2
theorem sc_Memory_put : FnScope ["self", "place", "word"] ["self", "place", "word"] (defScope s_Memory_put) := ⟨rfl, rfl, rfl, by decide +kernel, rfl, by decide +kernel, by decide +kernel⟩
abbrev s_Memory_copy : Stmt := inClass (top 32) 4
theorem sc_Memory_copy : FnScope ["self", "made"] ["self"] (defScope s_Memory_copy) := ⟨rfl, rfl, rfl, by decide +kernel, rfl, by decide +kernel, by decide +kernel⟩
abbrev s_Memory_eq : Stmt := inClass (top 32) 5
theorem sc_Memory_eq : FnScope ["self", "other"] ["self", "other"] (defScope s_Memory_eq) := ⟨rfl, rfl, rfl, by decide +kernel, rfl, by decide +kernel, by decide +kernel⟩
abbrev s_need_memory : Stmt := top 33
theorem sc_need_memory : FnScope ["value"] ["value"] (defScope s_need_memory) := ⟨rfl, rfl, rfl, by decide +kernel, rfl, by decide +kernel, by decide +kernel⟩
abbrev s_is_memory_place : Stmt := top 34
theorem sc_is_memory_place : FnScope ["value"] ["value"] (defScope s_is_memory_place) := ⟨rfl, rfl, rfl, by decide +kernel, rfl, by decide +kernel, by decide +kernel⟩
abbrev s_need_memory_place : Stmt := top 35
theorem sc_need_memory_place : FnScope ["value"] ["value"] (defScope s_need_memory_place) := ⟨rfl, rfl, rfl, by decide +kernel, rfl, by decide +kernel, by decide +kernel⟩
abbrev s_need_frame : Stmt := top 47
theorem sc_need_frame : FnScope ["value"] ["value"] (defScope s_need_frame) := ⟨rfl, rfl, rfl, by decide +kernel, rfl, by decide +kernel, by decide +kernel⟩
abbrev s_need_way : Stmt := top 48
theorem sc_need_way : FnScope ["value"] ["value"] (defScope s_need_way) := ⟨rfl, rfl, rfl, by decide +kernel, rfl, by decide +kernel, by decide +kernel⟩
abbrev s_need_side : Stmt := top 49
theorem sc_need_side : FnScope ["value"] ["value"] (defScope s_need_side) := ⟨rfl, rfl, rfl, by decide +kernel, rfl, by decide +kernel, by decide +kernel⟩
abbrev s_page_entry : Stmt := top 50
theorem sc_page_entry : FnScope ["frame", "flags"] ["frame", "flags"] (defScope s_page_entry) := ⟨rfl, rfl, rfl, by decide +kernel, rfl, by decide +kernel, by decide +kernel⟩
abbrev s_entry_parts : Stmt := top 51
theorem sc_entry_parts : FnScope ["word"] ["word"] (defScope s_entry_parts) := ⟨rfl, rfl, rfl, by decide +kernel, rfl, by decide +kernel, by decide +kernel⟩
abbrev s_by_entry : Stmt := top 52
theorem sc_by_entry : FnScope ["word", "address", "way", "is_user", "is_there", "flags", "frame", "place"] ["word", "address", "way", "is_user"] (defScope s_by_entry) := ⟨rfl, rfl, rfl, by decide +kernel, rfl, by decide +kernel, by decide +kernel⟩
abbrev s_translated : Stmt := top 53
theorem sc_translated : FnScope ["memory", "root", "address", "way", "is_user", "place", "cause", "leans", "_"] ["memory", "root", "address", "way", "is_user"] (defScope s_translated) := ⟨rfl, rfl, rfl, by decide +kernel, rfl, by decide +kernel, by decide +kernel⟩
abbrev s_walked : Stmt := top 54
theorem sc_walked : FnScope ["words", "root", "address", "way", "is_user", "page", "first", "is_there", "_", "table", "second", "word", "place", "cause"] ["words", "root", "address", "way", "is_user"] (defScope s_walked) := ⟨rfl, rfl, rfl, by decide +kernel, rfl, by decide +kernel, by decide +kernel⟩
abbrev s_straight : Stmt := top 55
theorem sc_straight : FnScope ["address", "way"] ["address", "way"] (defScope s_straight) := ⟨rfl, rfl, rfl, by decide +kernel, rfl, by decide +kernel, by decide +kernel⟩
abbrev s__is_frame : Stmt := top 56
theorem sc__is_frame : FnScope ["value"] ["value"] (defScope s__is_frame) := ⟨rfl, rfl, rfl, by decide +kernel, rfl, by decide +kernel, by decide +kernel⟩
abbrev s__are_flags : Stmt := top 57
theorem sc__are_flags : FnScope ["value"] ["value"] (defScope s__are_flags) := ⟨rfl, rfl, rfl, by decide +kernel, rfl, by decide +kernel, by decide +kernel⟩
abbrev s__lets : Stmt := top 58
theorem sc__lets : FnScope ["flags", "way", "is_user"] ["flags", "way", "is_user"] (defScope s__lets) := ⟨rfl, rfl, rfl, by decide +kernel, rfl, by decide +kernel, by decide +kernel⟩
abbrev s__entry_place : Stmt := top 59
theorem sc__entry_place : FnScope ["frame", "number"] ["frame", "number"] (defScope s__entry_place) := ⟨rfl, rfl, rfl, by decide +kernel, rfl, by decide +kernel, by decide +kernel⟩
abbrev s_Lpot : Stmt := top 61
theorem sc_Lpot : FnScope ["_law_script", "_law_k", "_law_cell", "_law_mixed"] ["_law_script", "_law_k"] (defScope s_Lpot) := ⟨rfl, rfl, rfl, by decide +kernel, rfl, by decide +kernel, by decide +kernel⟩
abbrev s_Ldraw : Stmt := top 62
theorem sc_Ldraw : FnScope ["_law_pot_here", "_law_size", "_law_digit"] ["_law_pot_here", "_law_size"] (defScope s_Ldraw) := ⟨rfl, rfl, rfl, by decide +kernel, rfl, by decide +kernel, by decide +kernel⟩
abbrev s_Lpick : Stmt := top 63
theorem sc_Lpick : FnScope ["_law_pot_here", "_law_some"] ["_law_pot_here", "_law_some"] (defScope s_Lpick) := ⟨rfl, rfl, rfl, by decide +kernel, rfl, by decide +kernel, by decide +kernel⟩
abbrev s_Lword : Stmt := top 64
theorem sc_Lword : FnScope ["_law_rows_here", "_law_place", "_law_where", "_law_word_here"] ["_law_rows_here", "_law_place"] (defScope s_Lword) := ⟨rfl, rfl, rfl, by decide +kernel, rfl, by decide +kernel, by decide +kernel⟩
abbrev s_Lcause : Stmt := top 65
theorem sc_Lcause : FnScope ["_law_way"] ["_law_way"] (defScope s_Lcause) := ⟨rfl, rfl, rfl, by decide +kernel, rfl, by decide +kernel, by decide +kernel⟩
abbrev s_Lsecond : Stmt := top 66
theorem sc_Lsecond : FnScope ["_law_word_here", "_law_address", "_law_way", "_law_is_user", "_law_place"] ["_law_word_here", "_law_address", "_law_way", "_law_is_user"] (defScope s_Lsecond) := ⟨rfl, rfl, rfl, by decide +kernel, rfl, by decide +kernel, by decide +kernel⟩
abbrev s_Ltold : Stmt := top 67
theorem sc_Ltold : FnScope ["_law_rows_here", "_law_root", "_law_address", "_law_way", "_law_is_user", "_law_first", "_law_word_here", "_law_second_here", "_law_place", "_law_cause_here"] ["_law_rows_here", "_law_root", "_law_address", "_law_way", "_law_is_user"] (defScope s_Ltold) := ⟨rfl, rfl, rfl, by decide +kernel, rfl, by decide +kernel, by decide +kernel⟩
abbrev s_Lentry : Stmt := top 68
theorem sc_Lentry : FnScope ["_law_pot_here", "_law_frame", "_law_word_here"] ["_law_pot_here", "_law_frame"] (defScope s_Lentry) := ⟨rfl, rfl, rfl, by decide +kernel, rfl, by decide +kernel, by decide +kernel⟩
abbrev s_Lrows : Stmt := top 69
theorem sc_Lrows : FnScope ["_law_pot_here", "_law_root", "_law_rows_here", "_law_tables", "_law_turn", "_law_number", "_law_place", "_law_table", "_law_where", "_law_word_here"] ["_law_pot_here", "_law_root"] (defScope s_Lrows) := ⟨rfl, rfl, rfl, by decide +kernel, rfl, by decide +kernel, by decide +kernel⟩
abbrev s_Lone_right : Stmt := top 70
theorem sc_Lone_right : FnScope ["_law_pot_here", "_law_memory", "_law_rows_here", "_law_root", "_law_address", "_law_way", "_law_is_user", "_law_due", "_law_told_here", "_law_word_here", "_law_flags", "_law_parts", "_law_made"] ["_law_pot_here", "_law_memory", "_law_rows_here", "_law_root"] (defScope s_Lone_right) := ⟨rfl, rfl, rfl, by decide +kernel, rfl, by decide +kernel, by decide +kernel⟩
abbrev s_Lstraight_right : Stmt := top 71
theorem sc_Lstraight_right : FnScope ["_law_pot_here", "_law_address", "_law_way", "_law_is_let", "_law_due"] ["_law_pot_here"] (defScope s_Lstraight_right) := ⟨rfl, rfl, rfl, by decide +kernel, rfl, by decide +kernel, by decide +kernel⟩
abbrev s_Lright : Stmt := top 72
theorem sc_Lright : FnScope ["_law_pot_here", "_law_root", "_law_memory", "_law_rows_here", "_law_place", "_law_word_here", "_law_held", "_law_turn"] ["_law_pot_here"] (defScope s_Lright) := ⟨rfl, rfl, rfl, by decide +kernel, rfl, by decide +kernel, by decide +kernel⟩
abbrev s_law : Stmt := top 73
theorem sc_law : FnScope ["_law_script"] ["_law_script"] (defScope s_law) := ⟨rfl, rfl, rfl, by decide +kernel, rfl, by decide +kernel, by decide +kernel⟩
abbrev F_Memory (v0 : V) : List (Str × V) := [("_words", v0)]
theorem gt_Memory_words {v0 : V} : (F_Memory v0).lookup ("_words" : Str) = some v0 := rfl
theorem pu_Memory_words {v0 u : V} : putF "_words" u (F_Memory v0) = F_Memory u := rfl
theorem pi_Memory_words {v0 : V} : putF "_words" v0 [] = F_Memory v0 := rfl
structure Txt (w : World) (K : PySem.W.Frag) (mg : Str → Option Value) where
  C_Memory : Addr
  cl_Memory : Cls K C_Memory
  g_Memory : mg "Memory" = some (.ref C_Memory)
  n_Memory_words : NoAttr K C_Memory "_words"
  f_is_integer : Addr
  fd_is_integer : FuncData
  F_is_integer : Fun K "is_integer" "is_integer" s_is_integer f_is_integer fd_is_integer
  g_is_integer : mg "is_integer" = some (.ref f_is_integer)
  b_is_integer : Binds K fd_is_integer ["value"] []
  f_is_between : Addr
  fd_is_between : FuncData
  F_is_between : Fun K "is_between" "is_between" s_is_between f_is_between fd_is_between
  g_is_between : mg "is_between" = some (.ref f_is_between)
  b_is_between : Binds K fd_is_between ["value", "least", "most"] []
  f_is_word : Addr
  fd_is_word : FuncData
  F_is_word : Fun K "is_word" "is_word" s_is_word f_is_word fd_is_word
  g_is_word : mg "is_word" = some (.ref f_is_word)
  b_is_word : Binds K fd_is_word ["value"] []
  f_is_address : Addr
  fd_is_address : FuncData
  F_is_address : Fun K "is_address" "is_address" s_is_address f_is_address fd_is_address
  g_is_address : mg "is_address" = some (.ref f_is_address)
  b_is_address : Binds K fd_is_address ["value"] []
  f_is_place : Addr
  fd_is_place : FuncData
  F_is_place : Fun K "is_place" "is_place" s_is_place f_is_place fd_is_place
  g_is_place : mg "is_place" = some (.ref f_is_place)
  b_is_place : Binds K fd_is_place ["value"] []
  f_need_word : Addr
  fd_need_word : FuncData
  F_need_word : Fun K "need_word" "need_word" s_need_word f_need_word fd_need_word
  g_need_word : mg "need_word" = some (.ref f_need_word)
  b_need_word : Binds K fd_need_word ["value"] []
  f_need_address : Addr
  fd_need_address : FuncData
  F_need_address : Fun K "need_address" "need_address" s_need_address f_need_address fd_need_address
  g_need_address : mg "need_address" = some (.ref f_need_address)
  b_need_address : Binds K fd_need_address ["value"] []
  f_need_bits : Addr
  fd_need_bits : FuncData
  F_need_bits : Fun K "need_bits" "need_bits" s_need_bits f_need_bits fd_need_bits
  g_need_bits : mg "need_bits" = some (.ref f_need_bits)
  b_need_bits : Binds K fd_need_bits ["word", "low", "many"] []
  f_bits : Addr
  fd_bits : FuncData
  F_bits : Fun K "bits" "bits" s_bits f_bits fd_bits
  g_bits : mg "bits" = some (.ref f_bits)
  b_bits : Binds K fd_bits ["word", "low", "many"] []
  f_Memory_init : Addr
  fd_Memory_init : FuncData
  F_Memory_init : Fun K "__init__" "Memory.__init__" s_Memory_init f_Memory_init fd_Memory_init
  b_Memory_init : Binds K fd_Memory_init ["self"] []
  mk_Memory : Mk K C_Memory f_Memory_init
  f_Memory_word : Addr
  fd_Memory_word : FuncData
  F_Memory_word : Fun K "word" "Memory.word" s_Memory_word f_Memory_word fd_Memory_word
  b_Memory_word : Binds K fd_Memory_word ["self", "place"] []
  me_Memory_word : Meth K C_Memory "word" f_Memory_word
  f_Memory_put : Addr
  fd_Memory_put : FuncData
  F_Memory_put : Fun K "put" "Memory.put" s_Memory_put f_Memory_put fd_Memory_put
  b_Memory_put : Binds K fd_Memory_put ["self", "place", "word"] []
  me_Memory_put : Meth K C_Memory "put" f_Memory_put
  f_Memory_copy : Addr
  fd_Memory_copy : FuncData
  F_Memory_copy : Fun K "copy" "Memory.copy" s_Memory_copy f_Memory_copy fd_Memory_copy
  b_Memory_copy : Binds K fd_Memory_copy ["self"] []
  me_Memory_copy : Meth K C_Memory "copy" f_Memory_copy
  f_Memory_eq : Addr
  fd_Memory_eq : FuncData
  F_Memory_eq : Fun K "__eq__" "Memory.__eq__" s_Memory_eq f_Memory_eq fd_Memory_eq
  b_Memory_eq : Binds K fd_Memory_eq ["self", "other"] []
  me_Memory_eq : Meth K C_Memory "__eq__" f_Memory_eq
  f_need_memory : Addr
  fd_need_memory : FuncData
  F_need_memory : Fun K "need_memory" "need_memory" s_need_memory f_need_memory fd_need_memory
  g_need_memory : mg "need_memory" = some (.ref f_need_memory)
  b_need_memory : Binds K fd_need_memory ["value"] []
  f_is_memory_place : Addr
  fd_is_memory_place : FuncData
  F_is_memory_place : Fun K "is_memory_place" "is_memory_place" s_is_memory_place f_is_memory_place fd_is_memory_place
  g_is_memory_place : mg "is_memory_place" = some (.ref f_is_memory_place)
  b_is_memory_place : Binds K fd_is_memory_place ["value"] []
  f_need_memory_place : Addr
  fd_need_memory_place : FuncData
  F_need_memory_place : Fun K "need_memory_place" "need_memory_place" s_need_memory_place f_need_memory_place fd_need_memory_place
  g_need_memory_place : mg "need_memory_place" = some (.ref f_need_memory_place)
  b_need_memory_place : Binds K fd_need_memory_place ["value"] []
  f_need_frame : Addr
  fd_need_frame : FuncData
  F_need_frame : Fun K "need_frame" "need_frame" s_need_frame f_need_frame fd_need_frame
  g_need_frame : mg "need_frame" = some (.ref f_need_frame)
  b_need_frame : Binds K fd_need_frame ["value"] []
  f_need_way : Addr
  fd_need_way : FuncData
  F_need_way : Fun K "need_way" "need_way" s_need_way f_need_way fd_need_way
  g_need_way : mg "need_way" = some (.ref f_need_way)
  b_need_way : Binds K fd_need_way ["value"] []
  f_need_side : Addr
  fd_need_side : FuncData
  F_need_side : Fun K "need_side" "need_side" s_need_side f_need_side fd_need_side
  g_need_side : mg "need_side" = some (.ref f_need_side)
  b_need_side : Binds K fd_need_side ["value"] []
  f_page_entry : Addr
  fd_page_entry : FuncData
  F_page_entry : Fun K "page_entry" "page_entry" s_page_entry f_page_entry fd_page_entry
  g_page_entry : mg "page_entry" = some (.ref f_page_entry)
  b_page_entry : Binds K fd_page_entry ["frame", "flags"] []
  f_entry_parts : Addr
  fd_entry_parts : FuncData
  F_entry_parts : Fun K "entry_parts" "entry_parts" s_entry_parts f_entry_parts fd_entry_parts
  g_entry_parts : mg "entry_parts" = some (.ref f_entry_parts)
  b_entry_parts : Binds K fd_entry_parts ["word"] []
  f_by_entry : Addr
  fd_by_entry : FuncData
  F_by_entry : Fun K "by_entry" "by_entry" s_by_entry f_by_entry fd_by_entry
  g_by_entry : mg "by_entry" = some (.ref f_by_entry)
  b_by_entry : Binds K fd_by_entry ["word", "address", "way", "is_user"] []
  f_translated : Addr
  fd_translated : FuncData
  F_translated : Fun K "translated" "translated" s_translated f_translated fd_translated
  g_translated : mg "translated" = some (.ref f_translated)
  b_translated : Binds K fd_translated ["memory", "root", "address", "way", "is_user"] []
  kp_translated_0_43210 : KBinds K fd_translated ["memory", "root", "address", "way", "is_user"] ["is_user", "way", "address", "root", "memory"] (kwP 0 [4, 3, 2, 1, 0]) (kwP 0 [4, 3, 2, 1, 0])
  f_walked : Addr
  fd_walked : FuncData
  F_walked : Fun K "walked" "walked" s_walked f_walked fd_walked
  g_walked : mg "walked" = some (.ref f_walked)
  b_walked : Binds K fd_walked ["words", "root", "address", "way", "is_user"] []
  f_straight : Addr
  fd_straight : FuncData
  F_straight : Fun K "straight" "straight" s_straight f_straight fd_straight
  g_straight : mg "straight" = some (.ref f_straight)
  b_straight : Binds K fd_straight ["address", "way"] []
  f__is_frame : Addr
  fd__is_frame : FuncData
  F__is_frame : Fun K "_is_frame" "_is_frame" s__is_frame f__is_frame fd__is_frame
  g__is_frame : mg "_is_frame" = some (.ref f__is_frame)
  b__is_frame : Binds K fd__is_frame ["value"] []
  f__are_flags : Addr
  fd__are_flags : FuncData
  F__are_flags : Fun K "_are_flags" "_are_flags" s__are_flags f__are_flags fd__are_flags
  g__are_flags : mg "_are_flags" = some (.ref f__are_flags)
  b__are_flags : Binds K fd__are_flags ["value"] []
  f__lets : Addr
  fd__lets : FuncData
  F__lets : Fun K "_lets" "_lets" s__lets f__lets fd__lets
  g__lets : mg "_lets" = some (.ref f__lets)
  b__lets : Binds K fd__lets ["flags", "way", "is_user"] []
  f__entry_place : Addr
  fd__entry_place : FuncData
  F__entry_place : Fun K "_entry_place" "_entry_place" s__entry_place f__entry_place fd__entry_place
  g__entry_place : mg "_entry_place" = some (.ref f__entry_place)
  b__entry_place : Binds K fd__entry_place ["frame", "number"] []
  f_Lpot : Addr
  fd_Lpot : FuncData
  F_Lpot : Fun K "_law_pot" "_law_pot" s_Lpot f_Lpot fd_Lpot
  g_Lpot : mg "_law_pot" = some (.ref f_Lpot)
  b_Lpot : Binds K fd_Lpot ["_law_script", "_law_k"] []
  f_Ldraw : Addr
  fd_Ldraw : FuncData
  F_Ldraw : Fun K "_law_draw" "_law_draw" s_Ldraw f_Ldraw fd_Ldraw
  g_Ldraw : mg "_law_draw" = some (.ref f_Ldraw)
  b_Ldraw : Binds K fd_Ldraw ["_law_pot_here", "_law_size"] []
  f_Lpick : Addr
  fd_Lpick : FuncData
  F_Lpick : Fun K "_law_pick" "_law_pick" s_Lpick f_Lpick fd_Lpick
  g_Lpick : mg "_law_pick" = some (.ref f_Lpick)
  b_Lpick : Binds K fd_Lpick ["_law_pot_here", "_law_some"] []
  f_Lword : Addr
  fd_Lword : FuncData
  F_Lword : Fun K "_law_word" "_law_word" s_Lword f_Lword fd_Lword
  g_Lword : mg "_law_word" = some (.ref f_Lword)
  b_Lword : Binds K fd_Lword ["_law_rows_here", "_law_place"] []
  f_Lcause : Addr
  fd_Lcause : FuncData
  F_Lcause : Fun K "_law_cause" "_law_cause" s_Lcause f_Lcause fd_Lcause
  g_Lcause : mg "_law_cause" = some (.ref f_Lcause)
  b_Lcause : Binds K fd_Lcause ["_law_way"] []
  f_Lsecond : Addr
  fd_Lsecond : FuncData
  F_Lsecond : Fun K "_law_second" "_law_second" s_Lsecond f_Lsecond fd_Lsecond
  g_Lsecond : mg "_law_second" = some (.ref f_Lsecond)
  b_Lsecond : Binds K fd_Lsecond ["_law_word_here", "_law_address", "_law_way", "_law_is_user"] []
  f_Ltold : Addr
  fd_Ltold : FuncData
  F_Ltold : Fun K "_law_told" "_law_told" s_Ltold f_Ltold fd_Ltold
  g_Ltold : mg "_law_told" = some (.ref f_Ltold)
  b_Ltold : Binds K fd_Ltold ["_law_rows_here", "_law_root", "_law_address", "_law_way", "_law_is_user"] []
  f_Lentry : Addr
  fd_Lentry : FuncData
  F_Lentry : Fun K "_law_entry" "_law_entry" s_Lentry f_Lentry fd_Lentry
  g_Lentry : mg "_law_entry" = some (.ref f_Lentry)
  b_Lentry : Binds K fd_Lentry ["_law_pot_here", "_law_frame"] []
  f_Lrows : Addr
  fd_Lrows : FuncData
  F_Lrows : Fun K "_law_rows" "_law_rows" s_Lrows f_Lrows fd_Lrows
  g_Lrows : mg "_law_rows" = some (.ref f_Lrows)
  b_Lrows : Binds K fd_Lrows ["_law_pot_here", "_law_root"] []
  f_Lone_right : Addr
  fd_Lone_right : FuncData
  F_Lone_right : Fun K "_law_one_right" "_law_one_right" s_Lone_right f_Lone_right fd_Lone_right
  g_Lone_right : mg "_law_one_right" = some (.ref f_Lone_right)
  b_Lone_right : Binds K fd_Lone_right ["_law_pot_here", "_law_memory", "_law_rows_here", "_law_root"] []
  f_Lstraight_right : Addr
  fd_Lstraight_right : FuncData
  F_Lstraight_right : Fun K "_law_straight_right" "_law_straight_right" s_Lstraight_right f_Lstraight_right fd_Lstraight_right
  g_Lstraight_right : mg "_law_straight_right" = some (.ref f_Lstraight_right)
  b_Lstraight_right : Binds K fd_Lstraight_right ["_law_pot_here"] []
  f_Lright : Addr
  fd_Lright : FuncData
  F_Lright : Fun K "_law_right" "_law_right" s_Lright f_Lright fd_Lright
  g_Lright : mg "_law_right" = some (.ref f_Lright)
  b_Lright : Binds K fd_Lright ["_law_pot_here"] []
  f_law : Addr
  fd_law : FuncData
  F_law : Fun K "law" "law" s_law f_law fd_law
  g_law : mg "law" = some (.ref f_law)
  b_law : Binds K fd_law ["_law_script"] []
  m_abs : mg "abs" = none
  m_bool : mg "bool" = none
  m_divmod : mg "divmod" = none
  m_int : mg "int" = none
  m_isinstance : mg "isinstance" = none
  m_len : mg "len" = none
  m_list : mg "list" = none
  m_max : mg "max" = none
  m_range : mg "range" = none
  m_repr : mg "repr" = none
  m_str : mg "str" = none
  c_NO_CAUSE : ∃ t, mg "NO_CAUSE" = some (.int 0 t)
  c_NO_SUCH_PLACE : ∃ t, mg "NO_SUCH_PLACE" = some (.int 7 t)
  c__WORD_BITS : ∃ t, mg "_WORD_BITS" = some (.int 16 t)
  c_WORDS : ∃ t, mg "WORDS" = some (.int 65536 t)
  c_ADDRESSES : ∃ t, mg "ADDRESSES" = some (.int 4096 t)
  c_PLACES : ∃ t, mg "PLACES" = some (.int 1024 t)
  c_MEMORY_PLACES : ∃ t, mg "MEMORY_PLACES" = some (.int 960 t)
  c_PAGE_WORDS : ∃ t, mg "PAGE_WORDS" = some (.int 16 t)
  c__FRAMES : ∃ t, mg "_FRAMES" = some (.int 64 t)
  c__FLAGS : ∃ t, mg "_FLAGS" = some (.int 4 t)
  c__USERS_FLAG : ∃ t, mg "_USERS_FLAG" = some (.int 1 t)
  c__WRITABLE_FLAG : ∃ t, mg "_WRITABLE_FLAG" = some (.int 2 t)
  c__THERE_BIT : ∃ t, mg "_THERE_BIT" = some (.int 15 t)
  c__FLAGS_BIT : ∃ t, mg "_FLAGS_BIT" = some (.int 13 t)
  c__FLAGS_BITS : ∃ t, mg "_FLAGS_BITS" = some (.int 2 t)
  c__FRAME_BITS : ∃ t, mg "_FRAME_BITS" = some (.int 6 t)
  ic_Memory : PySem.W.findIn K (.ref C_Memory) "__class__" = some (some (.builtin "object.__class__"))
  in_Memory : PySem.W.specialIn K (.builtin "object.__class__") "__get__" = some (some (.builtin "getset_descriptor.__get__"))
  it_Memory : PySem.W.takesIn K (.builtin "object.__class__") = some true
  im_Memory : PySem.W.mroIn K C_Memory (.type "object") = some true
  D_W : Addr
  es_W : Array DictEntry
  nn_W : Nat
  g_W : mg "_WAY_CAUSES" = some (.ref D_W)
  k_W : KDict K w D_W es_W nn_W
  w0_W : ∃ t, PySem.W.nsIn K D_W "fetch" = some (some (.int 4 t))
  w1_W : ∃ t, PySem.W.nsIn K D_W "load" = some (some (.int 5 t))
  w2_W : ∃ t, PySem.W.nsIn K D_W "store" = some (some (.int 6 t))
end K36

set_option Elab.async false
set_option linter.all false
set_option maxRecDepth 100000
set_option maxHeartbeats 8000000

namespace K36
open PySem PySem.Spec PyProof.Rows L2 Hx 
local macro_rules | `(tactic| walk_at "sm") => `(tactic| repeat' (first | assumption | apply Hx.Same.upd | exact L2.Same.refl _ | apply same_trans'))
local macro_rules | `(tactic| walk_at "hp") => `(tactic| repeat' (first | assumption | exact upd_same | apply old_upd | apply same_at))
local macro_rules | `(tactic| walk_at "rd") => `(tactic| repeat' (first | rfl | apply Exists.intro | apply And.intro | refine iteT ?_ | refine iteF ?_ | exact upd_same | exact SqL.of (by assumption) | exact SqL.of upd_same | exact SqT.of upd_same | exact SqT.of (by assumption) | ((with_reducible show (_ : Int) < _); omega) | ((with_reducible show (_ : Int) ≤ _); omega) | (show (_ : Prop); assumption) | exact Or.inl ⟨_, by assumption, rfl⟩ | exact Or.inl ⟨rfl, _, SqL.of (by assumption)⟩ | exact Or.inl ⟨rfl, _, SqL.of upd_same⟩ | apply old_upd | apply Hx.SqL.new | apply tyl_new | apply Pot.new | exact same_at (by assumption) (by assumption) | exact Or.inl (SqL.of (by assumption)) | exact Or.inl (by assumption) | exact Or.inl (SqL.of upd_same) | exact size_le (Nat.le_of_ble_eq_true rfl) | exact Nat.le_of_ble_eq_true rfl | exact True.intro | exact Or.inl rfl | exact Or.inr rfl | (show (_ : Prop); omega) | (show (_ : Prop); dsimp only; omega) | exact mulw64 (by omega) (by omega) | exact mulw64 (by (try dsimp only); omega) (by (try dsimp only); omega)))
set_option hygiene false in
local macro_rules | `(tactic| walk_at "fl") => `(tactic| simp only [pu_Memory_words, pi_Memory_words] at hO)
local macro_rules | `(tactic| walk_at "mem") => `(tactic| ((repeat (first | exact List.Mem.head _ | apply List.Mem.tail | fail)); done))
local macro_rules | `(tactic| walk_at "setat") => `(tactic| ((repeat (first | (with_reducible exact At.head) | (with_reducible apply At.tail) | (with_reducible apply At.app) | fail)); done))
set_option hygiene false in
local macro_rules | `(tactic| walk_at "dv") => `(tactic| ((repeat' (first | exact Dv.nil | exact Dv.of (by walk_at "mem") | exact Dv.ints _ | exact Dv1.of (by walk_at "mem") | exact Dv1.int _ | exact Dv1.non | exact Dv1.bl _ | exact Dv1.str _ | (with_reducible apply Dv.cons) | refine Dv1.tup (by walk_at "mem") ?_ | refine Dv1.lst (by walk_at "mem") ?_ | (with_reducible apply Dv.app) | fail)); done))
local macro_rules | `(tactic| walk_at "ft") => `(tactic| (first | (with_reducible exact Ft.refl) | ((with_reducible apply Ft.toL); focus walk_at "dv") | ((with_reducible apply Ft.toS); focus assumption) | (with_reducible apply Ft.lst) | (with_reducible apply Ft.Le) | (with_reducible apply Ft.dK) | (with_reducible apply Ft.De) | (with_reducible apply Ft.ins) | (with_reducible apply Ft.toL) | (with_reducible apply Ft.toS) | (with_reducible apply Ft.toD) | fail))
local macro_rules | `(tactic| walk_at "sbL") => `(tactic| repeat' (first | (with_reducible exact Sb.refl _) | exact Sb.nil | (with_reducible apply Sb.cons) | (with_reducible apply Sb.app) | (with_reducible exact Pk.one) | (with_reducible exact Pk.here) | (with_reducible exact Pk.all) | (with_reducible apply Pk.skip1) | (with_reducible apply Pk.skipB) | (with_reducible apply Sb.skip) | (with_reducible apply Sb.skipB) | ((with_reducible show Ft _ _ _ _); walk_at "ft") | ((with_reducible show (_ : List _) = _); (first | rfl | (simp [List.map_set, List.map_append]; done) | fail)) | fail))
local macro_rules | `(tactic| walk_at "sb") => `(tactic| ((walk_at "sbL"); done))
local macro_rules | `(tactic| walk_at "ps") => `(tactic| ((repeat' (first | (with_reducible exact Ps.refl) | exact Ps.nil | (with_reducible apply Ps.cons) | exact List.Mem.head _ | apply List.Mem.tail | (with_reducible apply Ps.skip) | fail)); done))
set_option hygiene false in
local macro_rules | `(tactic| walk_at "at") => `(tactic| first | assumption | exact Own.raw hO (by walk_at "mem") | exact Own.ptup hO (by walk_at "mem") | exact Own.plst hO (by walk_at "mem") | fail)
set_option hygiene false in
local macro_rules | `(tactic| walk_at "st") => `(tactic| (rw [upd_mkO hO]; generalize e : updX _ _ _ = H1; (first | ((apply Own.cset hO e); (focus walk_at "setat"); (try clear hO e); intro hO) | ((apply Own.cnewT hO e); (focus assumption); (try clear hO e); intro hO) | ((apply Own.cnew hO e); (focus assumption); (try clear hO e); intro hO) | fail)))
set_option hygiene false in
local macro_rules | `(tactic| walk_at "mk") => `(tactic| (intro p1 p2 f1 f2 f3; rw [upd_mkO hO]; generalize e : upd (updX _ _ _) _ _ = H1; apply Own.cmake hO f1 f2 f3 e; (try clear hO e); intro hO))
set_option hygiene false in
local macro_rules | `(tactic| walk_at "own") => `(tactic| (first | ((apply Own.sub hO); (focus walk_at "sb"); (focus walk_at "ps")) | ((apply Own.sub hF); (focus walk_at "sb"); (focus walk_at "ps")) | fail))
set_option hygiene false in
local macro_rules | `(tactic| walk_at "fin") => `(tactic| (refine Own.sub hO ?_ (by walk_at "ps"); walk_at "sbL"))
set_option hygiene false in
local macro_rules | `(tactic| walk_at "g1") => `(tactic| (first
 | ((with_reducible show (_ : Option HO) = _); walk_at "at")
 | ((with_reducible show (_ : Int) < _); omega) | ((with_reducible show (_ : Int) ≤ _); omega)
 | ((with_reducible show (_ : Nat) < _); (first | assumption | exact Nat.le_of_ble_eq_true rfl | exact size_lt (Nat.le_of_ble_eq_true rfl) | omega | (simp; done) | (simp; omega) | fail))
 | ((with_reducible show (_ : Nat) ≤ _); (first | assumption | exact Nat.le_of_ble_eq_true rfl | exact size_le (Nat.le_of_ble_eq_true rfl) | omega | (simp; done) | (simp; omega) | fail))
 | ((with_reducible show Own _ _ _ _); (first | walk_at "own" | (walk_at "st"; walk_at "own") | fail))
 | ((with_reducible show SqL _ _ _ _); (first | assumption | exact SqL.of (by walk_at "at") | fail))
 | ((with_reducible show SqT _ _ _ _); (first | assumption | exact hO.psq (by walk_at "mem") | exact SqT.of (by walk_at "at") | fail))
  | ((with_reducible show Cls _ _); exact Txt.cl_Memory T) | ((with_reducible show NoAttr _ _ _); exact Txt.n_Memory_words T) | (with_reducible exact gt_Memory_words) 
 | ((with_reducible show SqL _ _ _ _ ∨ SqT _ _ _ _); (first | exact Or.inl (SqL.of (by walk_at "at")) | exact Or.inr (SqT.of (by walk_at "at")) | fail))
 | ((with_reducible show Dp _ _ _ _); (first | assumption | exact hO.dpL (by walk_at "mem") | exact .lst (SqL.of (by walk_at "at")) (hO.all (by walk_at "dv")) | exact hO.one (by walk_at "dv") | fail))
 | ((with_reducible show TruV _ _ _ _); (first | exact Or.inl ⟨_, SqL.of (by walk_at "at"), rfl⟩ | exact Or.inr (Or.inr ⟨_, by walk_at "at", rfl⟩) | exact Or.inr (Or.inl ⟨_, SqT.of (by walk_at "at"), rfl⟩) | fail))
 | ((with_reducible show RgOk _ _); exact RgOk.of_le (by omega) (by omega) (by omega) (by omega))
 | rfl | (with_reducible assumption) | apply And.intro | apply Exists.intro | refine iteT ?_ | refine iteF ?_
 | (walk_at "st"; (try walk_at "fl"))
 | ((with_reducible show ∀ _ : Addr, _ = none → _); (fail_if_success (with_reducible show ∀ _ : Addr, _ = none → ∃ _ : Nat → Nat → Hp → Prop, _)); intro p fp; walk_at "st")
 | (refine Or.inl ⟨SqL.of (by walk_at "at"), ?_⟩) | (refine Or.inr ⟨SqT.of (by walk_at "at"), ?_⟩) | exact Or.inl ⟨_, by walk_at "at", rfl⟩ | exact Or.inl ⟨rfl, _, SqL.of (by walk_at "at")⟩ | exact tyl_of (by walk_at "at") | exact Or.inl (SqL.of (by walk_at "at")) | exact Or.inr (SqT.of (by walk_at "at")) | exact Or.inl (by walk_at "at") | exact size_le (Nat.le_of_ble_eq_true rfl) | exact Nat.le_of_ble_eq_true rfl | exact True.intro | exact Or.inl rfl | exact Or.inr rfl | (show (_ : Prop); assumption) | (show (_ : Prop); omega) | (show (_ : Prop); dsimp only; omega) | exact mulw64 (by omega) (by omega) | exact mulw64 (by (try dsimp only); omega) (by (try dsimp only); omega) | fail))
local macro_rules | `(tactic| walk_at "go") => `(tactic| repeat walk_at "g1")

section
variable {P : Program} {w : World} {K : PySem.W.Frag} {mg : Str → Option Value} {base : Heap}
def sp_is_integer : Sp := fun vs H Q _ => ∃ i : Int, vs = [.int i] ∧ Q (.bl true) H
theorem ok_is_integer (T : Txt w K mg) : FnOk P w K mg base CX0 1 T.f_is_integer T.fd_is_integer ["value"] (sp_is_integer) := by
  refine T.F_is_integer.ok sc_is_integer (fun vs H Q E h => ?_) (fun cdv A outer s H vs Q E hr h => ?_)
  · obtain ⟨i, rfl, k⟩ := h; rfl
  · obtain ⟨i, rfl, k⟩ := h
    refine ⟨_, (pss_one (ps_ret (pe_and (pe_callB call_isi (by rfl) T.m_isinstance (by decide +kernel) (pa_cons (pv 0) (pa_cons (pe_bltn (v := .ty "int") (u := .type "int") (by rfl) T.m_int (by decide +kernel) rfl) pa_nil))) (pe_one (pe_not (pe_callB call_isi (by rfl) T.m_isinstance (by decide +kernel) (pa_cons (pv 0) (pa_cons (pe_bltn (v := .ty "bool") (u := .type "bool") (by rfl) T.m_bool (by decide +kernel) rfl) pa_nil)))))))), ?_⟩
    clear hr
    refine ⟨_, rfl, _, _, _, _, true, rfl, .ty _, .base (.int _), kit_ty (by decide +kernel), true, rfl, iteT ?_⟩
    refine ⟨_, rfl, _, _, _, _, false, rfl, .ty _, .base (.int _), kit_ty (by decide +kernel), false, rfl, k⟩
def sp_is_between : Sp := fun vs H Q _ => ∃ i a b : Int, vs = [.int i, .int a, .int b] ∧ Q (.bl (decide (a ≤ i ∧ i ≤ b))) H
theorem ok_is_between (T : Txt w K mg) : FnOk P w K mg base CX0 2 T.f_is_between T.fd_is_between ["value", "least", "most"] (sp_is_between) := by
  have G_is_integer := ok_is_integer (P := P) (w := w) (base := base) T
  refine T.F_is_between.ok sc_is_between (fun vs H Q E h => ?_) (fun cdv A outer s H vs Q E hr h => ?_)
  · obtain ⟨i, a, b, rfl, k⟩ := h; rfl
  · obtain ⟨i, a, b, rfl, k⟩ := h
    refine ⟨_, (pss_one (ps_ret (pe_and (pe_call G_is_integer (hr.mono (by decide)) rfl T.g_is_integer T.F_is_integer.kp T.b_is_integer .nil pass0 (pa_cons (pv 0) pa_nil)) (pe_one (pe_chain op_le op_le (pv 1) (pv 0) (pv 2)))))), ?_⟩
    clear G_is_integer
    clear hr
    walk_at "rd"
    refine iteD (fun h1 => ?_) (fun h1 => ?_)
    · walk_at "rd"; exact qbl k (by simp [h1])
    · exact qbl k (by simp [h1])
def sp_is_word : Sp := fun vs H Q _ => ∃ i : Int, vs = [.int i] ∧ (0 ≤ i ∧ i < 65536) ∧ Q (.bl true) H
theorem ok_is_word (T : Txt w K mg) : FnOk P w K mg base CX0 3 T.f_is_word T.fd_is_word ["value"] (sp_is_word) := by
  have G_is_between := ok_is_between (P := P) (w := w) (base := base) T
  refine T.F_is_word.ok sc_is_word (fun vs H Q E h => ?_) (fun cdv A outer s H vs Q E hr h => ?_)
  · obtain ⟨i, rfl, hi, k⟩ := h; rfl
  · obtain ⟨i, rfl, hi, k⟩ := h
    refine ⟨_, (pss_one (ps_ret (pe_call G_is_between (hr.mono (by decide)) rfl T.g_is_between T.F_is_between.kp T.b_is_between .nil pass0 (pa_cons (pv 0) (pa_cons pe_int (pa_cons (pe_op op_sub (pe_gint rfl T.c_WORDS) pe_int) pa_nil)))))), ?_⟩
    clear G_is_between
    clear hr
    walk_at "rd"
    exact qbl k (decide_eq_true (by omega))
def sp_is_address : Sp := fun vs H Q _ => ∃ i : Int, vs = [.int i] ∧ (0 ≤ i ∧ i < 4096) ∧ Q (.bl true) H
theorem ok_is_address (T : Txt w K mg) : FnOk P w K mg base CX0 3 T.f_is_address T.fd_is_address ["value"] (sp_is_address) := by
  have G_is_between := ok_is_between (P := P) (w := w) (base := base) T
  refine T.F_is_address.ok sc_is_address (fun vs H Q E h => ?_) (fun cdv A outer s H vs Q E hr h => ?_)
  · obtain ⟨i, rfl, hi, k⟩ := h; rfl
  · obtain ⟨i, rfl, hi, k⟩ := h
    refine ⟨_, (pss_one (ps_ret (pe_call G_is_between (hr.mono (by decide)) rfl T.g_is_between T.F_is_between.kp T.b_is_between .nil pass0 (pa_cons (pv 0) (pa_cons pe_int (pa_cons (pe_op op_sub (pe_gint rfl T.c_ADDRESSES) pe_int) pa_nil)))))), ?_⟩
    clear G_is_between
    clear hr
    walk_at "rd"
    exact qbl k (decide_eq_true (by omega))
def sp_is_place : Sp := fun vs H Q _ => ∃ i : Int, vs = [.int i] ∧ Q (.bl (decide (0 ≤ i ∧ i < 1024))) H
theorem ok_is_place (T : Txt w K mg) : FnOk P w K mg base CX0 3 T.f_is_place T.fd_is_place ["value"] (sp_is_place) := by
  have G_is_between := ok_is_between (P := P) (w := w) (base := base) T
  refine T.F_is_place.ok sc_is_place (fun vs H Q E h => ?_) (fun cdv A outer s H vs Q E hr h => ?_)
  · obtain ⟨i, rfl, k⟩ := h; rfl
  · obtain ⟨i, rfl, k⟩ := h
    refine ⟨_, (pss_one (ps_ret (pe_call G_is_between (hr.mono (by decide)) rfl T.g_is_between T.F_is_between.kp T.b_is_between .nil pass0 (pa_cons (pv 0) (pa_cons pe_int (pa_cons (pe_op op_sub (pe_gint rfl T.c_PLACES) pe_int) pa_nil)))))), ?_⟩
    clear G_is_between
    clear hr
    walk_at "rd"
    exact qbl k (decide_eq_decide.mpr (by omega))
def sp_need_word : Sp := fun vs H Q _ => ∃ i : Int, vs = [.int i] ∧ (0 ≤ i ∧ i < 65536) ∧ Q .non H
theorem ok_need_word (T : Txt w K mg) : FnOk P w K mg base CX0 4 T.f_need_word T.fd_need_word ["value"] (sp_need_word) := by
  have G_is_word := ok_is_word (P := P) (w := w) (base := base) T
  refine T.F_need_word.ok sc_need_word (fun vs H Q E h => ?_) (fun cdv A outer s H vs Q E hr h => ?_)
  · obtain ⟨i, rfl, hi, k⟩ := h; rfl
  · obtain ⟨i, rfl, hi, k⟩ := h
    refine ⟨_, (pss_one (ps_if (pt_not (pt_val (pe_call G_is_word (hr.mono (by decide)) rfl T.g_is_word T.F_is_word.kp T.b_is_word .nil pass0 (pa_cons (pv 0) pa_nil))))
          (pss_one ps_never)
          pss_nil)), ?_⟩
    clear G_is_word
    clear hr
    walk_at "rd"
def sp_need_address : Sp := fun vs H Q _ => ∃ i : Int, vs = [.int i] ∧ (0 ≤ i ∧ i < 4096) ∧ Q .non H
theorem ok_need_address (T : Txt w K mg) : FnOk P w K mg base CX0 4 T.f_need_address T.fd_need_address ["value"] (sp_need_address) := by
  have G_is_address := ok_is_address (P := P) (w := w) (base := base) T
  refine T.F_need_address.ok sc_need_address (fun vs H Q E h => ?_) (fun cdv A outer s H vs Q E hr h => ?_)
  · obtain ⟨i, rfl, hi, k⟩ := h; rfl
  · obtain ⟨i, rfl, hi, k⟩ := h
    refine ⟨_, (pss_one (ps_if (pt_not (pt_val (pe_call G_is_address (hr.mono (by decide)) rfl T.g_is_address T.F_is_address.kp T.b_is_address .nil pass0 (pa_cons (pv 0) pa_nil))))
          (pss_one ps_never)
          pss_nil)), ?_⟩
    clear G_is_address
    clear hr
    walk_at "rd"
def sp_need_bits : Sp := fun vs H Q _ => ∃ (i : Int) (l m : Nat), vs = [.int i, .int (l : Int), .int (m : Int)] ∧ (0 ≤ i ∧ i < 65536) ∧ l ≤ 15 ∧ 1 ≤ m ∧ l + m ≤ 16 ∧ Q .non H
theorem pow16 {m : Nat} (h : m ≤ 16) : (0 : Int) < 2 ^ m ∧ (2 : Int) ^ m ≤ 65536 := by
  have e : ∀ k : Nat, k ≤ 16 → (0 : Int) < 2 ^ k ∧ (2 : Int) ^ k ≤ 65536 := by decide
  exact e m h
theorem ok_need_bits (T : Txt w K mg) : FnOk P w K mg base CX0 5 T.f_need_bits T.fd_need_bits ["word", "low", "many"] (sp_need_bits) := by
  have G_need_word := ok_need_word (P := P) (w := w) (base := base) T
  have G_is_between := ok_is_between (P := P) (w := w) (base := base) T
  refine T.F_need_bits.ok sc_need_bits (fun vs H Q E h => ?_) (fun cdv A outer s H vs Q E hr h => ?_)
  · obtain ⟨i, l, m, rfl, hi, hl, hm, hlm, k⟩ := h; rfl
  · obtain ⟨i, l, m, rfl, hi, hl, hm, hlm, k⟩ := h
    refine ⟨_, (pss_cons (ps_expr (pe_call G_need_word (hr.mono (by decide)) rfl T.g_need_word T.F_need_word.kp T.b_need_word .nil pass0 (pa_cons (pv 0) pa_nil)))
        (pss_cons (ps_if (pt_not (pt_val (pe_call G_is_between (hr.mono (by decide)) rfl T.g_is_between T.F_is_between.kp T.b_is_between .nil pass0 (pa_cons (pv 1) (pa_cons pe_int (pa_cons (pe_op op_sub (pe_gint rfl T.c__WORD_BITS) pe_int) pa_nil))))))
          (pss_one ps_never)
          pss_nil)
        (pss_one (ps_if (pt_not (pt_val (pe_call G_is_between (hr.mono (by decide)) rfl T.g_is_between T.F_is_between.kp T.b_is_between .nil pass0 (pa_cons (pv 2) (pa_cons pe_int (pa_cons (pe_op op_sub (pe_gint rfl T.c__WORD_BITS) (pv 1)) pa_nil))))))
          (pss_one ps_never)
          pss_nil)))), ?_⟩
    clear G_need_word G_is_between
    clear hr
    walk_at "rd"
    refine iteN (fun h => absurd h (fun z => z (by omega))) (fun _ => ?_)
    walk_at "rd"
    refine iteN (fun h => absurd h (fun z => z (by omega))) (fun _ => ?_)
    exact k
def sp_bits : Sp := fun vs H Q _ => ∃ (i : Int) (l m : Nat), vs = [.int i, .int (l : Int), .int (m : Int)] ∧ (0 ≤ i ∧ i < 65536) ∧ l ≤ 15 ∧ 1 ≤ m ∧ l + m ≤ 16 ∧ Q (.int (i / 2 ^ l % 2 ^ m)) H
theorem ok_bits (T : Txt w K mg) : FnOk P w K mg base CX0 6 T.f_bits T.fd_bits ["word", "low", "many"] (sp_bits) := by
  have G_need_bits := ok_need_bits (P := P) (w := w) (base := base) T
  refine T.F_bits.ok sc_bits (fun vs H Q E h => ?_) (fun cdv A outer s H vs Q E hr h => ?_)
  · obtain ⟨i, l, m, rfl, hi, hl, hm, hlm, k⟩ := h; rfl
  · obtain ⟨i, l, m, rfl, hi, hl, hm, hlm, k⟩ := h
    refine ⟨_, (pss_cons (ps_expr (pe_call G_need_bits (hr.mono (by decide)) rfl T.g_need_bits T.F_need_bits.kp T.b_need_bits .nil pass0 (pa_cons (pv 0) (pa_cons (pv 1) (pa_cons (pv 2) pa_nil)))))
        (pss_one (ps_ret (pe_op op_mod (pe_op op_shr (pv 0) (pv 1)) (pe_op op_shl pe_int (pv 2)))))), ?_⟩
    clear G_need_bits
    clear hr
    have pm := pow16 (show m ≤ 16 by omega)
    walk_at "rd"
    · simp only [Int.one_mul, Int.toNat_natCast]; omega
    · exact qint k (by simp only [Int.one_mul, Int.toNat_natCast])
def sp_is_mplace : Sp := fun vs H Q _ => ∃ i : Int, vs = [.int i] ∧ Q (.bl (decide (0 ≤ i ∧ i < 960))) H
theorem ok_is_memory_place (T : Txt w K mg) : FnOk P w K mg base CX0 3 T.f_is_memory_place T.fd_is_memory_place ["value"] (sp_is_mplace) := by
  have G_is_between := ok_is_between (P := P) (w := w) (base := base) T
  refine T.F_is_memory_place.ok sc_is_memory_place (fun vs H Q E h => ?_) (fun cdv A outer s H vs Q E hr h => ?_)
  · obtain ⟨i, rfl, k⟩ := h; rfl
  · obtain ⟨i, rfl, k⟩ := h
    refine ⟨_, (pss_one (ps_ret (pe_call G_is_between (hr.mono (by decide)) rfl T.g_is_between T.F_is_between.kp T.b_is_between .nil pass0 (pa_cons (pv 0) (pa_cons pe_int (pa_cons (pe_op op_sub (pe_gint rfl T.c_MEMORY_PLACES) pe_int) pa_nil)))))), ?_⟩
    clear G_is_between
    clear hr
    walk_at "rd"
    exact qbl k (decide_eq_decide.mpr (by omega))
def sp_need_mplace : Sp := fun vs H Q _ => ∃ i : Int, vs = [.int i] ∧ (0 ≤ i ∧ i < 960) ∧ Q .non H
theorem ok_need_memory_place (T : Txt w K mg) : FnOk P w K mg base CX0 4 T.f_need_memory_place T.fd_need_memory_place ["value"] (sp_need_mplace) := by
  have G_is_memory_place := ok_is_memory_place (P := P) (w := w) (base := base) T
  refine T.F_need_memory_place.ok sc_need_memory_place (fun vs H Q E h => ?_) (fun cdv A outer s H vs Q E hr h => ?_)
  · obtain ⟨i, rfl, hi, k⟩ := h; rfl
  · obtain ⟨i, rfl, hi, k⟩ := h
    refine ⟨_, (pss_one (ps_if (pt_not (pt_val (pe_call G_is_memory_place (hr.mono (by decide)) rfl T.g_is_memory_place T.F_is_memory_place.kp T.b_is_memory_place .nil pass0 (pa_cons (pv 0) pa_nil))))
          (pss_one ps_never)
          pss_nil)), ?_⟩
    clear G_is_memory_place
    clear hr
    walk_at "rd"
    refine iteN (fun h => absurd hi h) (fun _ => ?_)
    walk_at "rd"
abbrev F1 (l : Addr) : List (Str × V) := [("_words", .ref l)]
theorem pf1 (l : Addr) : putF "_words" (.ref l) [] = F1 l := rfl
theorem pu1 (l l' : Addr) : putF "_words" (.ref l') (F1 l) = F1 l' := rfl
theorem gt1 (l : Addr) : (F1 l).lookup ("_words" : Str) = some (.ref l) := rfl
/-- a memory stands at x, its words at l -/
structure MemAt (C : Addr) (H : Hp) (x l : Addr) (ws : List Int) : Prop where
  ob : ∃ dx, H x = some (.ins C dx (F1 l))
  at_ : H l = some (.lst (ws.map V.int))
  len : ws.length = 960
  bd : ∀ z ∈ ws, 0 ≤ z ∧ z < 65536
def m0 : List Int := List.replicate 960 0
def sp_init (C : Addr) : Sp := fun vs H Q _ => ∃ (x dx : Addr), vs = [.ref x] ∧ H x = some (.ins C dx []) ∧ ∀ (l : Addr) (H' : Hp), H l = none → MemAt C H' x l m0 → But x H H' → Q .non H'
theorem ok_Memory_init (T : Txt w K mg) : FnOk P w K mg base CX0 1 T.f_Memory_init T.fd_Memory_init ["self"] (sp_init T.C_Memory) := by
  refine T.F_Memory_init.ok sc_Memory_init (fun vs H Q E h => ?_) (fun cdv A outer s H vs Q E hr h => ?_)
  · obtain ⟨x, dx, rfl, hx, k⟩ := h; rfl
  · obtain ⟨x, dx, rfl, hx, k⟩ := h
    refine ⟨_, (pss_one (ps_stop (ps_fld (pv 0) (pe_op op_rep (pe_lst (pa_cons pe_int pa_nil)) (pe_gint rfl T.c_MEMORY_PLACES)) rfl))), ?_⟩
    clear hr
    have c1 := T.cl_Memory
    have n1 := T.n_Memory_words
    walk_at "rd"
    intro t ft
    have tx : t ≠ x := Ne.symm (ne_of_none hx ft)
    walk_at "rd"
    intro l fl
    have hx2 := old_upd ft hx (o := .lst [.int 0])
    walk_at "rd"
    refine ⟨?_⟩
    rw [pf1]
    have ef : (List.replicate (Int.toNat 960) [V.int 0]).flatten = m0.map V.int := by
      show (List.replicate 960 [V.int 0]).flatten = (List.replicate 960 (0 : Int)).map V.int
      rw [List.flatten_replicate_singleton, List.map_replicate]
    rw [ef]
    have lx : l ≠ x := Ne.symm (ne_of_none hx2 fl)
    refine k l _ ((same_upd ft).free fl) ⟨⟨dx, upd_same⟩, by rw [upd_ne lx]; exact upd_same, by unfold m0; rw [List.length_replicate], fun z hz => by rw [List.eq_of_mem_replicate hz]; decide⟩ (fun b u nb hb => by rw [upd_ne nb]; exact old_upd fl (old_upd ft hb))
theorem MemAt.same {C : Addr} {H H' : Hp} {x l : Addr} {ws : List Int} (h : MemAt C H x l ws) (s : Same H H') : MemAt C H' x l ws := by
  obtain ⟨dx, e⟩ := h.ob
  exact ⟨⟨dx, s _ _ e⟩, s _ _ h.at_, h.len, h.bd⟩
theorem MemAt.ne {C : Addr} {H : Hp} {x l : Addr} {ws : List Int} (h : MemAt C H x l ws) : l ≠ x := fun z => by
  obtain ⟨dx, e⟩ := h.ob
  have a := h.at_
  rw [z, e] at a; cases a
theorem atW {ws : List Int} {i : Nat} (h : i < ws.length) : atI (ws.map V.int) (i : Int) = some (.int (ws.getD i 0)) := atI_nat (by
  rw [List.getElem?_map, List.getElem?_eq_getElem h, List.getD_eq_getElem?_getD, List.getElem?_eq_getElem h]; rfl)
theorem ixW {ws : List V} {i : Nat} (h : i < ws.length) : ixN ws.length (i : Int) = some i := by
  unfold ixN
  rw [if_pos (by omega), if_pos (by omega), Int.toNat_natCast]
/-- the word at p -/
def G (ws : List Int) (p : Int) : Int := ws.getD p.toNat 0
def sp_word (C : Addr) : Sp := fun vs H Q _ => ∃ (x l : Addr) (ws : List Int) (p : Int), vs = [.ref x, .int p] ∧ MemAt C H x l ws ∧ (0 ≤ p ∧ p < 960) ∧ Q (.int (G ws p)) H
theorem ok_Memory_word (T : Txt w K mg) : FnOk P w K mg base CX0 5 T.f_Memory_word T.fd_Memory_word ["self", "place"] (sp_word T.C_Memory) := by
  have G_need_memory_place := ok_need_memory_place (P := P) (w := w) (base := base) T
  refine T.F_Memory_word.ok sc_Memory_word (fun vs H Q E h => ?_) (fun cdv A outer s H vs Q E hr h => ?_)
  · obtain ⟨x, l, ws, p, rfl, hm, hp, k⟩ := h; rfl
  · obtain ⟨x, l, ws, p, rfl, hm, hp, k⟩ := h
    refine ⟨_, (pss_cons (ps_expr (pe_call G_need_memory_place (hr.mono (by decide)) rfl T.g_need_memory_place T.F_need_memory_place.kp T.b_need_memory_place .nil pass0 (pa_cons (pv 1) pa_nil)))
        (pss_one (ps_ret (pe_ix ix_list (pe_fld (pv 0) rfl) (pv 1) (fun _ _ => rfl))))), ?_⟩
    clear G_need_memory_place
    clear hr
    obtain ⟨dx, hx⟩ := id hm.ob
    have c1 := T.cl_Memory
    have n1 := T.n_Memory_words
    have g1 := gt1 l
    have hl := hm.at_
    have len := hm.len
    have ha := atW (ws := ws) (i := p.toNat) (by omega)
    rw [Int.toNat_of_nonneg hp.1] at ha
    walk_at "rd"
def sp_put (C : Addr) : Sp := fun vs H Q _ => ∃ (x l : Addr) (ws : List Int) (p w : Int), vs = [.ref x, .int p, .int w] ∧ MemAt C H x l ws ∧ (0 ≤ p ∧ p < 960) ∧ (0 ≤ w ∧ w < 65536) ∧ ∀ H', MemAt C H' x l (ws.set p.toNat w) → But l H H' → Q .non H'
theorem ok_Memory_put (T : Txt w K mg) : FnOk P w K mg base CX0 5 T.f_Memory_put T.fd_Memory_put ["self", "place", "word"] (sp_put T.C_Memory) := by
  have G_need_memory_place := ok_need_memory_place (P := P) (w := w) (base := base) T
  have G_need_word := ok_need_word (P := P) (w := w) (base := base) T
  refine T.F_Memory_put.ok sc_Memory_put (fun vs H Q E h => ?_) (fun cdv A outer s H vs Q E hr h => ?_)
  · obtain ⟨x, l, ws, p, w, rfl, hm, hp, hw, k⟩ := h; rfl
  · obtain ⟨x, l, ws, p, w, rfl, hm, hp, hw, k⟩ := h
    refine ⟨_, (pss_cons (ps_expr (pe_call G_need_memory_place (hr.mono (by decide)) rfl T.g_need_memory_place T.F_need_memory_place.kp T.b_need_memory_place .nil pass0 (pa_cons (pv 1) pa_nil)))
        (pss_cons (ps_expr (pe_call G_need_word (hr.mono (by decide)) rfl T.g_need_word T.F_need_word.kp T.b_need_word .nil pass0 (pa_cons (pv 2) pa_nil)))
        (pss_one (ps_asg (pv 2) (pg_sub (pe_fld (pv 0) rfl) (pv 1) set_list))))), ?_⟩
    clear G_need_memory_place G_need_word
    clear hr
    obtain ⟨dx, hx⟩ := id hm.ob
    have c1 := T.cl_Memory
    have n1 := T.n_Memory_words
    have g1 := gt1 l
    have hl := hm.at_
    have len := hm.len
    have hix := ixW (ws := ws.map V.int) (i := p.toNat) (by simp; omega)
    rw [Int.toNat_of_nonneg hp.1] at hix
    walk_at "rd"
    refine k _ ⟨⟨dx, by rw [upd_ne (Ne.symm hm.ne)]; exact hx⟩, by rw [upd_same, List.map_set], by simpa using len, fun z hz => ?_⟩ But.set
    rcases List.mem_or_eq_of_mem_set hz with h | h
    · exact hm.bd z h
    · rw [h]; exact hw
def sp_copy (C : Addr) : Sp := fun vs H Q _ => ∃ (x l : Addr) (ws : List Int), vs = [.ref x] ∧ MemAt C H x l ws ∧ ∀ (x' l' : Addr) (H' : Hp), H x' = none → H l' = none → MemAt C H' x' l' ws → Same H H' → Q (.ref x') H'
theorem ok_Memory_copy (T : Txt w K mg) : FnOk P w K mg base CX0 3 T.f_Memory_copy T.fd_Memory_copy ["self"] (sp_copy T.C_Memory) := by
  have G_Memory_init := ok_Memory_init (P := P) (w := w) (base := base) T
  refine T.F_Memory_copy.ok sc_Memory_copy (fun vs H Q E h => ?_) (fun cdv A outer s H vs Q E hr h => ?_)
  · obtain ⟨x, l, ws, rfl, hm, k⟩ := h; rfl
  · obtain ⟨x, l, ws, rfl, hm, k⟩ := h
    refine ⟨_, (pss_cons (ps_set (i := 1) sc_Memory_copy.nd rfl (Or.inl rfl) (pe_make0 T.mk_Memory G_Memory_init (hr.mono (by decide)) rfl T.g_Memory T.b_Memory_init .nil pass0))
        (pss_cons (ps_stop (ps_fld (pv 1) (pe_callTy call_list_of (by rfl) T.m_list (by decide +kernel) (pa_cons (pe_fld (pv 0) rfl) pa_nil)) rfl))
        (pss_one (ps_ret (pv 1))))), ?_⟩
    clear G_Memory_init
    clear hr
    obtain ⟨dx, hx⟩ := id hm.ob
    have c1 := T.cl_Memory
    have n1 := T.n_Memory_words
    have g1 := gt1 l
    walk_at "rd"
    intro x' dx' nx ndx nex
    have nx' : upd H dx' (.own x') x' = none := by rw [upd_ne (Ne.symm nex)]; exact nx
    have sm : Same H (upd (upd H dx' (.own x')) x' (.ins T.C_Memory dx' [])) := Hx.Same.upd (same_upd ndx) nx'
    walk_at "rd"
    intro l1 H2 fl1 hm1 bt
    obtain ⟨dx2, hx2⟩ := id hm1.ob
    have s2 : Same H H2 := fun b u e => bt b u (ne_of_none e nx) (sm _ _ e)
    have hx3 := s2 _ _ hx
    have hl3 := s2 _ _ hm.at_
    walk_at "rd"
    intro l' fl'
    walk_at "rd"
    refine ⟨?_⟩
    rw [pu1]
    walk_at "rd"
    have lx' : l' ≠ x' := Ne.symm (ne_of_none hx2 fl')
    exact k x' l' _ nx (s2.free fl') ⟨⟨dx2, upd_same⟩, by rw [upd_ne lx']; exact upd_same, hm.len, hm.bd⟩ (same_set (L2.Same.trans s2 (same_upd fl')) nx)
theorem eqv_list (as bs : List Int) : PyData.eqv (.list (as.map PyData.int)) (.list (bs.map PyData.int)) = decide (as = bs) := by
  induction as generalizing bs with
  | nil => cases bs <;> simp [PyData.eqv, PyData.eqvAll]
  | cons a r ih =>
    cases bs with
    | nil => simp [PyData.eqv, PyData.eqvAll]
    | cons b t =>
      have i := ih t
      simp only [PyData.eqv] at i
      have e : (a == b) = decide (a = b) := by rw [Bool.eq_iff_iff]; simp
      simp [PyData.eqv, PyData.eqvAll, i, e]
def sp_eqM (C : Addr) : Sp := fun vs H Q _ => ∃ (x l x' l' : Addr) (ws ws' : List Int), vs = [.ref x, .ref x'] ∧ MemAt C H x l ws ∧ MemAt C H x' l' ws' ∧ Q (.bl (decide (ws = ws'))) H
theorem ok_Memory_eq (T : Txt w K mg) : FnOk P w K mg base CX0 1 T.f_Memory_eq T.fd_Memory_eq ["self", "other"] (sp_eqM T.C_Memory) := by
  refine T.F_Memory_eq.ok sc_Memory_eq (fun vs H Q E h => ?_) (fun cdv A outer s H vs Q E hr h => ?_)
  · obtain ⟨x, l, x', l', ws, ws', rfl, hm, hm', k⟩ := h; rfl
  · obtain ⟨x, l, x', l', ws, ws', rfl, hm, hm', k⟩ := h
    refine ⟨_, (pss_one (ps_ret (pe_and (pe_callB call_isi (by rfl) T.m_isinstance (by decide +kernel) (pa_cons (pv 1) (pa_cons (pe_glob (v := .ref T.C_Memory) rfl T.g_Memory rfl) pa_nil))) (pe_one (pe_cmpR (op_eqD hr.units) (pe_fld (pv 0) rfl) (pe_fld (pv 1) rfl) (nomark _)))))), ?_⟩
    clear hr
    obtain ⟨dx, hx⟩ := id hm.ob
    obtain ⟨dx', hx'⟩ := id hm'.ob
    have c1 := T.cl_Memory
    have n1 := T.n_Memory_words
    have g1 := gt1 l
    have g1' := gt1 l'
    have D1 : Dp K H (.ref l) (.list (ws.map PyData.int)) := .lst (SqL.of hm.at_) (dp_ints _)
    have D2 : Dp K H (.ref l') (.list (ws'.map PyData.int)) := .lst (SqL.of hm'.at_) (dp_ints _)
    have S1 := sh_ints ws
    have S2 := sh_ints ws'
    have ty : TyX K H (.ref x') (.ref T.C_Memory) := .base (.ins hx' c1 T.ic_Memory T.in_Memory T.it_Memory T.im_Memory)
    have ks : PySem.W.kitOne K (.ref T.C_Memory) (.ref T.C_Memory) = some true := kit_self'
    have cv : ClsV (.ref T.C_Memory) (.ref T.C_Memory) := .own _
    walk_at "rd"
    exact qbl k (eqv_list _ _)
theorem kit_self {K : PySem.W.Frag} {C : Addr} : PySem.W.kitOne K (.ref C) (.ref C) = some true := if_pos (beq_self_eq_true _)
def sp_need_memory (C : Addr) : Sp := fun vs H Q _ => ∃ (x l : Addr) (ws : List Int), vs = [.ref x] ∧ MemAt C H x l ws ∧ Q .non H
theorem ok_need_memory (T : Txt w K mg) : FnOk P w K mg base CX0 1 T.f_need_memory T.fd_need_memory ["value"] (sp_need_memory T.C_Memory) := by
  refine T.F_need_memory.ok sc_need_memory (fun vs H Q E h => ?_) (fun cdv A outer s H vs Q E hr h => ?_)
  · obtain ⟨x, l, ws, rfl, hm, k⟩ := h; rfl
  · obtain ⟨x, l, ws, rfl, hm, k⟩ := h
    refine ⟨_, (pss_one (ps_if (pt_not (pt_val (pe_callB call_isi (by rfl) T.m_isinstance (by decide +kernel) (pa_cons (pv 0) (pa_cons (pe_glob (v := .ref T.C_Memory) rfl T.g_Memory rfl) pa_nil)))))
          (pss_one ps_never)
          pss_nil)), ?_⟩
    clear hr
    obtain ⟨dx, hx⟩ := id hm.ob
    have c1 := T.cl_Memory
    have cv : ClsV (.ref T.C_Memory) (.ref T.C_Memory) := .own _
    have ty : TyX K H (.ref x) (.ref T.C_Memory) := .base (.ins hx c1 T.ic_Memory T.in_Memory T.it_Memory T.im_Memory)
    have ks : PySem.W.kitOne K (.ref T.C_Memory) (.ref T.C_Memory) = some true := kit_self
    walk_at "rd"
def sp_is_frame : Sp := fun vs H Q _ => ∃ i : Int, vs = [.int i] ∧ (0 ≤ i ∧ i < 64) ∧ Q (.bl true) H
theorem ok__is_frame (T : Txt w K mg) : FnOk P w K mg base CX0 3 T.f__is_frame T.fd__is_frame ["value"] (sp_is_frame) := by
  have G_is_between := ok_is_between (P := P) (w := w) (base := base) T
  refine T.F__is_frame.ok sc__is_frame (fun vs H Q E h => ?_) (fun cdv A outer s H vs Q E hr h => ?_)
  · obtain ⟨i, rfl, hi, k⟩ := h; rfl
  · obtain ⟨i, rfl, hi, k⟩ := h
    refine ⟨_, (pss_one (ps_ret (pe_call G_is_between (hr.mono (by decide)) rfl T.g_is_between T.F_is_between.kp T.b_is_between .nil pass0 (pa_cons (pv 0) (pa_cons pe_int (pa_cons (pe_op op_sub (pe_gint rfl T.c__FRAMES) pe_int) pa_nil)))))), ?_⟩
    clear G_is_between
    clear hr
    walk_at "rd"
    exact qbl k (decide_eq_true (by omega))
def sp_are_flags : Sp := fun vs H Q _ => ∃ i : Int, vs = [.int i] ∧ (0 ≤ i ∧ i < 4) ∧ Q (.bl true) H
theorem ok__are_flags (T : Txt w K mg) : FnOk P w K mg base CX0 3 T.f__are_flags T.fd__are_flags ["value"] (sp_are_flags) := by
  have G_is_between := ok_is_between (P := P) (w := w) (base := base) T
  refine T.F__are_flags.ok sc__are_flags (fun vs H Q E h => ?_) (fun cdv A outer s H vs Q E hr h => ?_)
  · obtain ⟨i, rfl, hi, k⟩ := h; rfl
  · obtain ⟨i, rfl, hi, k⟩ := h
    refine ⟨_, (pss_one (ps_ret (pe_call G_is_between (hr.mono (by decide)) rfl T.g_is_between T.F_is_between.kp T.b_is_between .nil pass0 (pa_cons (pv 0) (pa_cons pe_int (pa_cons (pe_op op_sub (pe_gint rfl T.c__FLAGS) pe_int) pa_nil)))))), ?_⟩
    clear G_is_between
    clear hr
    walk_at "rd"
    exact qbl k (decide_eq_true (by omega))
def sp_need_frame : Sp := fun vs H Q _ => ∃ i : Int, vs = [.int i] ∧ (0 ≤ i ∧ i < 64) ∧ Q .non H
theorem ok_need_frame (T : Txt w K mg) : FnOk P w K mg base CX0 4 T.f_need_frame T.fd_need_frame ["value"] (sp_need_frame) := by
  have G__is_frame := ok__is_frame (P := P) (w := w) (base := base) T
  refine T.F_need_frame.ok sc_need_frame (fun vs H Q E h => ?_) (fun cdv A outer s H vs Q E hr h => ?_)
  · obtain ⟨i, rfl, hi, k⟩ := h; rfl
  · obtain ⟨i, rfl, hi, k⟩ := h
    refine ⟨_, (pss_one (ps_if (pt_not (pt_val (pe_call G__is_frame (hr.mono (by decide)) rfl T.g__is_frame T.F__is_frame.kp T.b__is_frame .nil pass0 (pa_cons (pv 0) pa_nil))))
          (pss_one ps_never)
          pss_nil)), ?_⟩
    clear G__is_frame
    clear hr
    walk_at "rd"
/-- the three ways -/
def wy : Nat → Str
  | 0 => "fetch"
  | 1 => "load"
  | _ => "store"
theorem wayK {K : PySem.W.Frag} {mg : Str → Option Value} {w : World} (T : Txt w K mg) {i : Nat} (h : i < 3) : ∃ t, PySem.W.nsIn K T.D_W (wy i) = some (some (.int (4 + (i : Int)) t)) := by
  match i, h with
  | 0, _ => exact T.w0_W
  | 1, _ => exact T.w1_W
  | 2, _ => exact T.w2_W
theorem wayD {K : PySem.W.Frag} {mg : Str → Option Value} {w : World} (T : Txt w K mg) {i : Nat} (h : i < 3) : KDct K w T.D_W (wy i) (.int (4 + (i : Int))) := by
  obtain ⟨t, e⟩ := wayK T h
  exact ⟨_, _, _, T.k_W.at_, T.k_W.lit, e, ⟨t, rfl⟩⟩
theorem ix_way {X : Cx} {mg : Str → Option Value} (T : Txt X.w X.K mg) : IxR X (fun x y H Q => ∃ i : Nat, x = .ref T.D_W ∧ y = .str (wy i) ∧ i < 3 ∧ Q (.int (4 + (i : Int))) H) := by
  intro value slice pins s σ H x y v u Q I rx ry h hs
  obtain ⟨i, rfl, rfl, hi, q⟩ := h
  exact ix_kdict value slice pins s σ H _ _ v u Q I rx ry ⟨_, _, _, rfl, rfl, wayD T hi, q⟩ hs
def sp_need_way : Sp := fun vs H Q _ => ∃ i : Nat, vs = [.str (wy i)] ∧ i < 3 ∧ Q .non H
theorem ok_need_way (T : Txt w K mg) : FnOk P w K mg base CX0 1 T.f_need_way T.fd_need_way ["value"] (sp_need_way) := by
  refine T.F_need_way.ok sc_need_way (fun vs H Q E h => ?_) (fun cdv A outer s H vs Q E hr h => ?_)
  · obtain ⟨i, rfl, hi, k⟩ := h; rfl
  · obtain ⟨i, rfl, hi, k⟩ := h
    refine ⟨_, (pss_one (ps_if (pt_not (PW.pt (pw_and (pt_val (pe_callB call_isi (by rfl) T.m_isinstance (by decide +kernel) (pa_cons (pv 0) (pa_cons (pe_bltn (v := .ty "str") (u := .type "str") (by rfl) T.m_str (by decide +kernel) rfl) pa_nil)))) (pw_and1 (pt_cmpR (op_in_kd T.k_W) (pv 0) (pe_glob (v := .ref T.D_W) rfl T.g_W rfl) (by rfl))))))
          (pss_one ps_never)
          pss_nil)), ?_⟩
    clear hr
    obtain ⟨t, e⟩ := wayK T hi
    refine ⟨_, rfl, _, _, _, _, true, rfl, .ty _, .base (.str _), kit_ty (by decide +kernel), ?_⟩
    walk_at "rd"
def sp_need_side : Sp := fun vs H Q _ => ∃ b : Bool, vs = [.bl b] ∧ Q .non H
theorem ok_need_side (T : Txt w K mg) : FnOk P w K mg base CX0 1 T.f_need_side T.fd_need_side ["value"] (sp_need_side) := by
  refine T.F_need_side.ok sc_need_side (fun vs H Q E h => ?_) (fun cdv A outer s H vs Q E hr h => ?_)
  · obtain ⟨b, rfl, k⟩ := h; rfl
  · obtain ⟨b, rfl, k⟩ := h
    refine ⟨_, (pss_one (ps_if (pt_not (pt_val (pe_callB call_isi (by rfl) T.m_isinstance (by decide +kernel) (pa_cons (pv 0) (pa_cons (pe_bltn (v := .ty "bool") (u := .type "bool") (by rfl) T.m_bool (by decide +kernel) rfl) pa_nil)))))
          (pss_one ps_never)
          pss_nil)), ?_⟩
    clear hr
    refine ⟨_, rfl, _, _, _, _, true, rfl, .ty _, .base (.bl _), kit_ty (by decide +kernel), ?_⟩
    walk_at "rd"
def sp_pentry : Sp := fun vs H Q _ => ∃ f g : Int, vs = [.int f, .int g] ∧ (0 ≤ f ∧ f < 64) ∧ (0 ≤ g ∧ g < 4) ∧ Q (.int (32768 + g * 8192 + f)) H
theorem ok_page_entry (T : Txt w K mg) : FnOk P w K mg base CX0 5 T.f_page_entry T.fd_page_entry ["frame", "flags"] (sp_pentry) := by
  have G_need_frame := ok_need_frame (P := P) (w := w) (base := base) T
  have G__are_flags := ok__are_flags (P := P) (w := w) (base := base) T
  refine T.F_page_entry.ok sc_page_entry (fun vs H Q E h => ?_) (fun cdv A outer s H vs Q E hr h => ?_)
  · obtain ⟨f, g, rfl, hf, hg, k⟩ := h; rfl
  · obtain ⟨f, g, rfl, hf, hg, k⟩ := h
    refine ⟨_, (pss_cons (ps_expr (pe_call G_need_frame (hr.mono (by decide)) rfl T.g_need_frame T.F_need_frame.kp T.b_need_frame .nil pass0 (pa_cons (pv 0) pa_nil)))
        (pss_cons (ps_if (pt_not (pt_val (pe_call G__are_flags (hr.mono (by decide)) rfl T.g__are_flags T.F__are_flags.kp T.b__are_flags .nil pass0 (pa_cons (pv 1) pa_nil))))
          (pss_one ps_never)
          pss_nil)
        (pss_one (ps_ret (pe_op op_add (pe_op op_add (pe_op op_shl pe_int (pe_gint rfl T.c__THERE_BIT)) (pe_op op_shl (pv 1) (pe_gint rfl T.c__FLAGS_BIT))) (pv 0)))))), ?_⟩
    clear G_need_frame G__are_flags
    clear hr
    walk_at "rd"
def sp_parts : Sp := fun vs H Q _ => ∃ i : Int, vs = [.int i] ∧ (0 ≤ i ∧ i < 65536) ∧ ∀ (t : Addr) (H' : Hp), Same H H' → H' t = some (.tup [.bl (decide (32768 ≤ i)), .int (i / 8192 % 4), .int (i % 64)]) → Q (.ref t) H'
theorem ok_entry_parts (T : Txt w K mg) : FnOk P w K mg base CX0 7 T.f_entry_parts T.fd_entry_parts ["word"] (sp_parts) := by
  have G_bits := ok_bits (P := P) (w := w) (base := base) T
  refine T.F_entry_parts.ok sc_entry_parts (fun vs H Q E h => ?_) (fun cdv A outer s H vs Q E hr h => ?_)
  · obtain ⟨i, rfl, hi, k⟩ := h; rfl
  · obtain ⟨i, rfl, hi, k⟩ := h
    refine ⟨_, (pss_one (ps_ret (pe_tup (pa_cons (pe_cmpR op_eq (pe_call G_bits (hr.mono (by decide)) rfl T.g_bits T.F_bits.kp T.b_bits .nil pass0 (pa_cons (pv 0) (pa_cons (pe_gint rfl T.c__THERE_BIT) (pa_cons pe_int pa_nil)))) pe_int (nomark _)) (pa_cons (pe_call G_bits (hr.mono (by decide)) rfl T.g_bits T.F_bits.kp T.b_bits .nil pass0 (pa_cons (pv 0) (pa_cons (pe_gint rfl T.c__FLAGS_BIT) (pa_cons (pe_gint rfl T.c__FLAGS_BITS) pa_nil)))) (pa_cons (pe_call G_bits (hr.mono (by decide)) rfl T.g_bits T.F_bits.kp T.b_bits .nil pass0 (pa_cons (pv 0) (pa_cons pe_int (pa_cons (pe_gint rfl T.c__FRAME_BITS) pa_nil)))) pa_nil)))))), ?_⟩
    clear G_bits
    clear hr
    walk_at "rd"
    intro t ht
    refine k t _ (same_upd ht) ?_
    rw [upd_same]
    have e1 : decide (V.int (i / 2 ^ 15 % 2 ^ 1) = V.int 1) = decide (32768 ≤ i) := decide_eq_decide.mpr ⟨fun h => by have := V.int.inj h; omega, fun h => congrArg V.int (by omega)⟩
    have e2 : i / 2 ^ 13 % 2 ^ 2 = i / 8192 % 4 := by omega
    have e3 : i / 2 ^ 0 % 2 ^ 6 = i % 64 := by omega
    rw [e1, e2, e3]
def lets (f : Int) (i : Nat) (u : Bool) : Bool := !(u && decide (f % 2 = 0)) && (decide (i ≠ 2) || decide (f / 2 % 2 ≠ 0))
theorem wy2 {i : Nat} (h : i < 3) (e : V.str (wy i) = V.str "store") : i = 2 := by
  match i, h with
  | 0, _ => injection e with e; exact absurd e (by decide)
  | 1, _ => injection e with e; exact absurd e (by decide)
  | 2, _ => rfl
theorem wy0 {i : Nat} (h : i < 3) (e : V.str (wy i) = V.str "fetch") : i = 0 := by
  match i, h with
  | 0, _ => rfl
  | 1, _ => injection e with e; exact absurd e (by decide)
  | 2, _ => injection e with e; exact absurd e (by decide)
def sp_lets : Sp := fun vs H Q _ => ∃ (f : Int) (i : Nat) (u : Bool), vs = [.int f, .str (wy i), .bl u] ∧ (0 ≤ f ∧ f < 4) ∧ i < 3 ∧ Q (.bl (lets f i u)) H
theorem ok__lets (T : Txt w K mg) : FnOk P w K mg base CX0 1 T.f__lets T.fd__lets ["flags", "way", "is_user"] (sp_lets) := by
  refine T.F__lets.ok sc__lets (fun vs H Q E h => ?_) (fun cdv A outer s H vs Q E hr h => ?_)
  · obtain ⟨f, i, u, rfl, hf, hi, k⟩ := h; rfl
  · obtain ⟨f, i, u, rfl, hf, hi, k⟩ := h
    refine ⟨_, (pss_cons (ps_if (PW.pt (pw_and (pt_val (pv 2)) (pw_and1 (pt_cmpR op_eq (pe_op op_and (pv 0) (pe_gint rfl T.c__USERS_FLAG)) pe_int (nomark _)))))
          (pss_one (ps_ret pe_bl))
          pss_nil)
        (pss_one (ps_ret (pe_or (pe_cmpR op_ne (pv 1) pe_str (nomark _)) (pe_one (pe_cmpR op_ne (pe_op op_and (pv 0) (pe_gint rfl T.c__WRITABLE_FLAG)) pe_int (nomark _))))))), ?_⟩
    clear hr
    have hf4 : f = 0 ∨ f = 1 ∨ f = 2 ∨ f = 3 := by omega
    have b1 : decide (V.int (Builtin.bitAnd f 1) = V.int 0) = decide (f % 2 = 0) := by rcases hf4 with rfl | rfl | rfl | rfl <;> decide
    have b2 : decide (V.int (Builtin.bitAnd f 2) = V.int 0) = !decide (f / 2 % 2 ≠ 0) := by rcases hf4 with rfl | rfl | rfl | rfl <;> decide
    have st : (V.str (wy i) = V.str "store") ↔ i = 2 := ⟨wy2 hi, fun e => by rw [e]; rfl⟩
    clear hf4
    cases u with
    | false =>
      walk_at "rd"
      refine iteN (fun h => ?_) (fun h => ?_)
      · have h2 : i ≠ 2 := fun e => h (st.mpr e)
        exact qbl k (by simp [lets, h2])
      · have h2 : i = 2 := st.mp h
        walk_at "rd"
        exact qbl k (by rw [b2]; simp [lets, h2])
    | true =>
      walk_at "rd"
      show if decide (V.int (Builtin.bitAnd f 1) = V.int 0) = true then _ else _
      rw [b1]
      refine iteD (fun h1 => ?_) (fun h1 => ?_)
      · walk_at "rd"
        exact qbl k (by simp [lets, h1])
      · walk_at "rd"
        refine iteN (fun h => ?_) (fun h => ?_)
        · have h2 : i ≠ 2 := fun e => h (st.mpr e)
          exact qbl k (by simp [lets, h1, h2])
        · have h2 : i = 2 := st.mp h
          walk_at "rd"
          exact qbl k (by rw [b2]; simp [lets, h1, h2])
def sp_eplace : Sp := fun vs H Q _ => ∃ f n : Int, vs = [.int f, .int n] ∧ (0 ≤ f ∧ f < 64) ∧ (0 ≤ n ∧ n < 4096) ∧ Q (.int (f * 16 + n % 16)) H
theorem ok__entry_place (T : Txt w K mg) : FnOk P w K mg base CX0 1 T.f__entry_place T.fd__entry_place ["frame", "number"] (sp_eplace) := by
  refine T.F__entry_place.ok sc__entry_place (fun vs H Q E h => ?_) (fun cdv A outer s H vs Q E hr h => ?_)
  · obtain ⟨f, n, rfl, hf, hn, k⟩ := h; rfl
  · obtain ⟨f, n, rfl, hf, hn, k⟩ := h
    refine ⟨_, (pss_one (ps_ret (pe_op op_add (pe_op op_mulW (pv 0) (pe_gint rfl T.c_PAGE_WORDS)) (pe_op op_mod (pv 1) (pe_gint rfl T.c_PAGE_WORDS))))), ?_⟩
    clear hr
    walk_at "rd"
def plV : Option Int → V
  | none => .non
  | some p => .int p
/-- by the second entry's word -/
def sec (x a : Int) (i : Nat) (u : Bool) : Option Int × Int :=
  if x < 32768 then (none, 4 + i)
  else if lets (x / 8192 % 4) i u = false then (none, 4 + i)
  else if i = 0 ∧ 960 ≤ x % 64 * 16 + a % 16 then (none, 7)
  else (some (x % 64 * 16 + a % 16), 0)
def sp_by : Sp := fun vs H Q _ => ∃ (x a : Int) (i : Nat) (u : Bool), vs = [.int x, .int a, .str (wy i), .bl u] ∧ (0 ≤ x ∧ x < 65536) ∧ (0 ≤ a ∧ a < 4096) ∧ i < 3 ∧
  ∀ (t : Addr) (H' : Hp), Same H H' → H' t = some (.tup [plV (sec x a i u).1, .int (sec x a i u).2]) → Q (.ref t) H'
theorem ok_by_entry (T : Txt w K mg) : FnOk P w K mg base CX0 8 T.f_by_entry T.fd_by_entry ["word", "address", "way", "is_user"] (sp_by) := by
  have G_need_word := ok_need_word (P := P) (w := w) (base := base) T
  have G_need_address := ok_need_address (P := P) (w := w) (base := base) T
  have G_need_way := ok_need_way (P := P) (w := w) (base := base) T
  have G_need_side := ok_need_side (P := P) (w := w) (base := base) T
  have G_entry_parts := ok_entry_parts (P := P) (w := w) (base := base) T
  have G__lets := ok__lets (P := P) (w := w) (base := base) T
  have G__entry_place := ok__entry_place (P := P) (w := w) (base := base) T
  have G_is_memory_place := ok_is_memory_place (P := P) (w := w) (base := base) T
  refine T.F_by_entry.ok sc_by_entry (fun vs H Q E h => ?_) (fun cdv A outer s H vs Q E hr h => ?_)
  · obtain ⟨x, a, i, u, rfl, hx, ha, hi, k⟩ := h; rfl
  · obtain ⟨x, a, i, u, rfl, hx, ha, hi, k⟩ := h
    refine ⟨_, (pss_cons (ps_expr (pe_call G_need_word (hr.mono (by decide)) rfl T.g_need_word T.F_need_word.kp T.b_need_word .nil pass0 (pa_cons (pv 0) pa_nil)))
        (pss_cons (ps_expr (pe_call G_need_address (hr.mono (by decide)) rfl T.g_need_address T.F_need_address.kp T.b_need_address .nil pass0 (pa_cons (pv 1) pa_nil)))
        (pss_cons (ps_expr (pe_call G_need_way (hr.mono (by decide)) rfl T.g_need_way T.F_need_way.kp T.b_need_way .nil pass0 (pa_cons (pv 2) pa_nil)))
        (pss_cons (ps_expr (pe_call G_need_side (hr.mono (by decide)) rfl T.g_need_side T.F_need_side.kp T.b_need_side .nil pass0 (pa_cons (pv 3) pa_nil)))
        (pss_cons (ps_asg (pe_call G_entry_parts (hr.mono (by decide)) rfl T.g_entry_parts T.F_entry_parts.kp T.b_entry_parts .nil pass0 (pa_cons (pv 0) pa_nil)) (pg_tup rfl (pgs_cons (pg_name (i := 4) sc_by_entry.nd rfl (Or.inl rfl)) (pgs_cons (pg_name (i := 5) sc_by_entry.nd rfl (Or.inl rfl)) (pgs_cons (pg_name (i := 6) sc_by_entry.nd rfl (Or.inl rfl)) pgs_nil)))))
        (pss_cons (ps_if (pt_not (PW.pt (pw_and (pt_val (pv 4)) (pw_and1 (pt_val (pe_call G__lets (hr.mono (by decide)) rfl T.g__lets T.F__lets.kp T.b__lets .nil pass0 (pa_cons (pv 5) (pa_cons (pv 2) (pa_cons (pv 3) pa_nil)))))))))
          (pss_one (ps_ret (pe_tup (pa_cons pe_non (pa_cons (pe_ix (ix_way T) (pe_glob (v := .ref T.D_W) rfl T.g_W rfl) (pv 2) (fun _ _ => rfl)) pa_nil)))))
          pss_nil)
        (pss_cons (ps_set (i := 7) sc_by_entry.nd rfl (Or.inl rfl) (pe_call G__entry_place (hr.mono (by decide)) rfl T.g__entry_place T.F__entry_place.kp T.b__entry_place .nil pass0 (pa_cons (pv 6) (pa_cons (pv 1) pa_nil))))
        (pss_cons (ps_if (PW.pt (pw_and (pt_cmpR op_eq (pv 2) pe_str (nomark _)) (pw_and1 (pt_not (pt_val (pe_call G_is_memory_place (hr.mono (by decide)) rfl T.g_is_memory_place T.F_is_memory_place.kp T.b_is_memory_place .nil pass0 (pa_cons (pv 7) pa_nil)))))))
          (pss_one (ps_ret (pe_tup (pa_cons pe_non (pa_cons (pe_gint rfl T.c_NO_SUCH_PLACE) pa_nil)))))
          pss_nil)
        (pss_one (ps_ret (pe_tup (pa_cons (pv 7) (pa_cons (pe_gint rfl T.c_NO_CAUSE) pa_nil))))))))))))), ?_⟩
    clear G_need_word G_need_address G_need_way G_need_side G_entry_parts G__lets G__entry_place G_is_memory_place
    clear hr
    walk_at "rd"
    intro t H1 s1 e1
    have f4 : 0 ≤ x / 8192 % 4 ∧ x / 8192 % 4 < 4 := by omega
    have f64 : 0 ≤ x % 64 ∧ x % 64 < 64 := by omega
    walk_at "rd"
    refine iteD (fun h1 => ?_) (fun h1 => ?_)
    · have n1 : ¬ x < 32768 := by omega
      obtain ⟨b, hb⟩ : ∃ b, lets (x / 8192 % 4) i u = b := ⟨_, rfl⟩
      walk_at "rd"
      rw [hb]
      cases b with
      | false =>
        have es : sec x a i u = (none, 4 + (i : Int)) := by unfold sec; rw [if_neg n1, if_pos hb]
        rw [es] at k
        walk_at "rd"
        intro t2 ht2
        exact k t2 _ (Hx.Same.upd s1 ht2) upd_same
      | true =>
        have nb : ¬ lets (x / 8192 % 4) i u = false := by rw [hb]; exact fun z => nomatch z
        walk_at "rd"
        refine iteD (fun h2 => ?_) (fun h2 => ?_)
        · have hi0 := wy0 hi h2
          walk_at "rd"
          refine iteN (fun h3 => ?_) (fun h3 => ?_)
          · have es : sec x a i u = (none, 7) := by unfold sec; rw [if_neg n1, if_neg nb, if_pos ⟨hi0, by omega⟩]
            rw [es] at k
            walk_at "rd"
            intro t2 ht2
            exact k t2 _ (Hx.Same.upd s1 ht2) upd_same
          · have es : sec x a i u = (some (x % 64 * 16 + a % 16), 0) := by unfold sec; rw [if_neg n1, if_neg nb, if_neg (fun z => by omega)]
            rw [es] at k
            walk_at "rd"
            intro t2 ht2
            exact k t2 _ (Hx.Same.upd s1 ht2) upd_same
        · have hi0 : ¬ i = 0 := fun z => h2 (by rw [z]; rfl)
          have es : sec x a i u = (some (x % 64 * 16 + a % 16), 0) := by unfold sec; rw [if_neg n1, if_neg nb, if_neg (fun z => hi0 z.1)]
          rw [es] at k
          walk_at "rd"
          intro t2 ht2
          exact k t2 _ (Hx.Same.upd s1 ht2) upd_same
    · have n1 : x < 32768 := by omega
      have es : sec x a i u = (none, 4 + (i : Int)) := by unfold sec; rw [if_pos n1]
      rw [es] at k
      walk_at "rd"
      intro t2 ht2
      exact k t2 _ (Hx.Same.upd s1 ht2) upd_same
structure Rs where
  place : Option Int
  cause : Int
  leans : List Int
/-- what a way tells, by the words g -/
def tl (g : Int → Int) (r a : Int) (i : Nat) (u : Bool) : Rs :=
  if 960 ≤ r * 16 + a / 256 then ⟨none, 7, []⟩
  else if g (r * 16 + a / 256) < 32768 then ⟨none, 4 + i, [r * 16 + a / 256]⟩
  else if 960 ≤ g (r * 16 + a / 256) % 64 * 16 + a / 16 % 16 then ⟨none, 7, [r * 16 + a / 256]⟩
  else ⟨(sec (g (g (r * 16 + a / 256) % 64 * 16 + a / 16 % 16)) a i u).1, (sec (g (g (r * 16 + a / 256) % 64 * 16 + a / 16 % 16)) a i u).2, [r * 16 + a / 256, g (r * 16 + a / 256) % 64 * 16 + a / 16 % 16]⟩
theorem G_bd {C : Addr} {H : Hp} {x l : Addr} {ws : List Int} (h : MemAt C H x l ws) (p : Int) : 0 ≤ G ws p ∧ G ws p < 65536 := by
  unfold G
  rw [List.getD_eq_getElem?_getD]
  cases e : ws[p.toNat]? with
  | none => decide
  | some v => exact h.bd v (List.mem_of_getElem? e)
def sp_walked (C : Addr) : Sp := fun vs H Q _ => ∃ (x l : Addr) (ws : List Int) (r a : Int) (i : Nat) (u : Bool) (z : Str), vs = [.ref x, .int r, .int a, .str z, .bl u] ∧ z = wy i ∧ MemAt C H x l ws ∧ (0 ≤ r ∧ r < 64) ∧ (0 ≤ a ∧ a < 4096) ∧ i < 3 ∧
  ∀ (t ll : Addr) (wv : V) (H' : Hp), H ll = none → Same H H' → H' t = some (.tup [plV (tl (G ws) r a i u).place, .int (tl (G ws) r a i u).cause, .ref ll, wv]) → H' ll = some (.lst ((tl (G ws) r a i u).leans.map V.int)) → Q (.ref t) H'
theorem ok_walked (T : Txt w K mg) : FnOk P w K mg base CX0 9 T.f_walked T.fd_walked ["words", "root", "address", "way", "is_user"] (sp_walked T.C_Memory) := by
  have G__entry_place := ok__entry_place (P := P) (w := w) (base := base) T
  have G_is_memory_place := ok_is_memory_place (P := P) (w := w) (base := base) T
  have G_entry_parts := ok_entry_parts (P := P) (w := w) (base := base) T
  have G_Memory_word := ok_Memory_word (P := P) (w := w) (base := base) T
  have G_by_entry := ok_by_entry (P := P) (w := w) (base := base) T
  refine T.F_walked.ok sc_walked (fun vs H Q E h => ?_) (fun cdv A outer s H vs Q E hr h => ?_)
  · obtain ⟨x, l, ws, r, a, i, u, _, rfl, rfl, hm, hrt, ha, hi, k⟩ := h; rfl
  · obtain ⟨x, l, ws, r, a, i, u, _, rfl, rfl, hm, hrt, ha, hi, k⟩ := h
    refine ⟨_, (pss_cons (ps_set (i := 5) sc_walked.nd rfl (Or.inl rfl) (pe_op op_fdiv (pv 2) (pe_gint rfl T.c_PAGE_WORDS)))
        (pss_cons (ps_set (i := 6) sc_walked.nd rfl (Or.inl rfl) (pe_call G__entry_place (hr.mono (by decide)) rfl T.g__entry_place T.F__entry_place.kp T.b__entry_place .nil pass0 (pa_cons (pv 1) (pa_cons (pe_op op_fdiv (pv 5) (pe_gint rfl T.c_PAGE_WORDS)) pa_nil))))
        (pss_cons (ps_if (pt_not (pt_val (pe_call G_is_memory_place (hr.mono (by decide)) rfl T.g_is_memory_place T.F_is_memory_place.kp T.b_is_memory_place .nil pass0 (pa_cons (pv 6) pa_nil))))
          (pss_one (ps_ret (pe_tup (pa_cons pe_non (pa_cons (pe_gint rfl T.c_NO_SUCH_PLACE) (pa_cons (pe_lst pa_nil) (pa_cons pe_non pa_nil)))))))
          pss_nil)
        (pss_cons (ps_asg (pe_call G_entry_parts (hr.mono (by decide)) rfl T.g_entry_parts T.F_entry_parts.kp T.b_entry_parts .nil pass0 (pa_cons (pe_meth (pv 0) T.cl_Memory T.me_Memory_word G_Memory_word (hr.mono (by decide)) T.b_Memory_word .nil pass0 (pa_cons (pv 6) pa_nil)) pa_nil)) (pg_tup rfl (pgs_cons (pg_name (i := 7) sc_walked.nd rfl (Or.inl rfl)) (pgs_cons (pg_name (i := 8) sc_walked.nd rfl (Or.inl rfl)) (pgs_cons (pg_name (i := 9) sc_walked.nd rfl (Or.inl rfl)) pgs_nil)))))
        (pss_cons (ps_if (pt_not (pt_val (pv 7)))
          (pss_one (ps_ret (pe_tup (pa_cons pe_non (pa_cons (pe_ix (ix_way T) (pe_glob (v := .ref T.D_W) rfl T.g_W rfl) (pv 3) (fun _ _ => rfl)) (pa_cons (pe_lst (pa_cons (pv 6) pa_nil)) (pa_cons pe_non pa_nil)))))))
          pss_nil)
        (pss_cons (ps_set (i := 10) sc_walked.nd rfl (Or.inl rfl) (pe_call G__entry_place (hr.mono (by decide)) rfl T.g__entry_place T.F__entry_place.kp T.b__entry_place .nil pass0 (pa_cons (pv 9) (pa_cons (pv 5) pa_nil))))
        (pss_cons (ps_if (pt_not (pt_val (pe_call G_is_memory_place (hr.mono (by decide)) rfl T.g_is_memory_place T.F_is_memory_place.kp T.b_is_memory_place .nil pass0 (pa_cons (pv 10) pa_nil))))
          (pss_one (ps_ret (pe_tup (pa_cons pe_non (pa_cons (pe_gint rfl T.c_NO_SUCH_PLACE) (pa_cons (pe_lst (pa_cons (pv 6) pa_nil)) (pa_cons pe_non pa_nil)))))))
          pss_nil)
        (pss_cons (ps_set (i := 11) sc_walked.nd rfl (Or.inl rfl) (pe_meth (pv 0) T.cl_Memory T.me_Memory_word G_Memory_word (hr.mono (by decide)) T.b_Memory_word .nil pass0 (pa_cons (pv 10) pa_nil)))
        (pss_cons (ps_asg (pe_call G_by_entry (hr.mono (by decide)) rfl T.g_by_entry T.F_by_entry.kp T.b_by_entry .nil pass0 (pa_cons (pv 11) (pa_cons (pv 2) (pa_cons (pv 3) (pa_cons (pv 4) pa_nil))))) (pg_tup rfl (pgs_cons (pg_name (i := 12) sc_walked.nd rfl (Or.inl rfl)) (pgs_cons (pg_name (i := 13) sc_walked.nd rfl (Or.inl rfl)) pgs_nil))))
        (pss_one (ps_ret (pe_tup (pa_cons (pv 12) (pa_cons (pv 13) (pa_cons (pe_lst (pa_cons (pv 6) (pa_cons (pv 10) pa_nil))) (pa_cons (pv 11) pa_nil)))))))))))))))), ?_⟩
    clear G__entry_place G_is_memory_place G_entry_parts G_Memory_word G_by_entry
    clear hr
    obtain ⟨dx, hx⟩ := id hm.ob
    have hp1 : 0 ≤ a / 16 / 16 ∧ a / 16 / 16 < 4096 := by omega
    walk_at "rd"
    have eF : r * 16 + a / 16 / 16 % 16 = r * 16 + a / 256 := by omega
    rw [eF]
    obtain ⟨f, hf⟩ : ∃ f, f = r * 16 + a / 256 := ⟨_, rfl⟩
    rw [← hf]
    have hf0 : 0 ≤ f := by omega
    refine iteN (fun h => ?_) (fun h => ?_)
    · have et : tl (G ws) r a i u = ⟨none, 7, []⟩ := by unfold tl; rw [← hf, if_pos (by omega)]
      rw [et] at k
      walk_at "rd"
      intro ll hl
      walk_at "rd"
      intro t ht
      exact k t ll .non _ hl (Hx.Same.upd (same_upd hl) ht) upd_same (old_upd ht upd_same)
    have g0 := G_bd hm f
    have nf : ¬ 960 ≤ f := by omega
    have hp2 : 0 ≤ a / 16 ∧ a / 16 < 4096 := by omega
    walk_at "rd"
    intro t1 H1 s1 e1
    walk_at "rd"
    refine iteN (fun h1 => ?_) (fun h1 => ?_)
    · have et : tl (G ws) r a i u = ⟨none, 4 + i, [f]⟩ := by unfold tl; rw [← hf, if_neg nf, if_pos (by omega)]
      rw [et] at k
      walk_at "rd"
      intro ll hl
      walk_at "rd"
      intro t ht
      exact k t ll .non _ (s1.free hl) (Hx.Same.upd (Hx.Same.upd s1 hl) ht) upd_same (old_upd ht upd_same)
    have nt : ¬ G ws f < 32768 := by omega
    have f64 : 0 ≤ G ws f % 64 ∧ G ws f % 64 < 64 := by omega
    replace hm := hm.same s1
    clear hx
    obtain ⟨dx, hx⟩ := id hm.ob
    walk_at "rd"
    obtain ⟨q, hq⟩ : ∃ q, q = G ws f % 64 * 16 + a / 16 % 16 := ⟨_, rfl⟩
    rw [← hq]
    have hq0 : 0 ≤ q := by omega
    refine iteN (fun h2 => ?_) (fun h2 => ?_)
    · have et : tl (G ws) r a i u = ⟨none, 7, [f]⟩ := by unfold tl; rw [← hf, if_neg nf, if_neg nt, ← hq, if_pos (by omega)]
      rw [et] at k
      walk_at "rd"
      intro ll hl
      walk_at "rd"
      intro t ht
      exact k t ll .non _ (s1.free hl) (Hx.Same.upd (Hx.Same.upd s1 hl) ht) upd_same (old_upd ht upd_same)
    have et : tl (G ws) r a i u = ⟨(sec (G ws q) a i u).1, (sec (G ws q) a i u).2, [f, q]⟩ := by unfold tl; rw [← hf, if_neg nf, if_neg nt, ← hq, if_neg (by omega)]
    rw [et] at k
    have gq := G_bd hm q
    walk_at "rd"
    intro t2 H2 s2 e2
    walk_at "rd"
    intro ll hl
    walk_at "rd"
    intro t ht
    exact k t ll _ _ ((L2.Same.trans s1 s2).free hl) (Hx.Same.upd (Hx.Same.upd (L2.Same.trans s1 s2) hl) ht) upd_same (old_upd ht upd_same)
def sp_translated (C : Addr) : Sp := fun vs H Q _ => ∃ (x l : Addr) (ws : List Int) (r a : Int) (i : Nat) (u : Bool), vs = [.ref x, .int r, .int a, .str (wy i), .bl u] ∧ MemAt C H x l ws ∧ (0 ≤ r ∧ r < 64) ∧ (0 ≤ a ∧ a < 4096) ∧ i < 3 ∧
  ∀ (t ll : Addr) (H' : Hp), H t = none → H ll = none → Same H H' → H' t = some (.tup [plV (tl (G ws) r a i u).place, .int (tl (G ws) r a i u).cause, .ref ll]) → H' ll = some (.lst ((tl (G ws) r a i u).leans.map V.int)) → Q (.ref t) H'
theorem ok_translated (T : Txt w K mg) : FnOk P w K mg base CX0 10 T.f_translated T.fd_translated ["memory", "root", "address", "way", "is_user"] (sp_translated T.C_Memory) := by
  have G_need_memory := ok_need_memory (P := P) (w := w) (base := base) T
  have G_need_frame := ok_need_frame (P := P) (w := w) (base := base) T
  have G_need_address := ok_need_address (P := P) (w := w) (base := base) T
  have G_need_way := ok_need_way (P := P) (w := w) (base := base) T
  have G_need_side := ok_need_side (P := P) (w := w) (base := base) T
  have G_walked := ok_walked (P := P) (w := w) (base := base) T
  refine T.F_translated.ok sc_translated (fun vs H Q E h => ?_) (fun cdv A outer s H vs Q E hr h => ?_)
  · obtain ⟨x, l, ws, r, a, i, u, rfl, hm, hrt, ha, hi, k⟩ := h; rfl
  · obtain ⟨x, l, ws, r, a, i, u, rfl, hm, hrt, ha, hi, k⟩ := h
    refine ⟨_, (pss_cons (ps_expr (pe_call G_need_memory (hr.mono (by decide)) rfl T.g_need_memory T.F_need_memory.kp T.b_need_memory .nil pass0 (pa_cons (pv 0) pa_nil)))
        (pss_cons (ps_expr (pe_call G_need_frame (hr.mono (by decide)) rfl T.g_need_frame T.F_need_frame.kp T.b_need_frame .nil pass0 (pa_cons (pv 1) pa_nil)))
        (pss_cons (ps_expr (pe_call G_need_address (hr.mono (by decide)) rfl T.g_need_address T.F_need_address.kp T.b_need_address .nil pass0 (pa_cons (pv 2) pa_nil)))
        (pss_cons (ps_expr (pe_call G_need_way (hr.mono (by decide)) rfl T.g_need_way T.F_need_way.kp T.b_need_way .nil pass0 (pa_cons (pv 3) pa_nil)))
        (pss_cons (ps_expr (pe_call G_need_side (hr.mono (by decide)) rfl T.g_need_side T.F_need_side.kp T.b_need_side .nil pass0 (pa_cons (pv 4) pa_nil)))
        (pss_cons (ps_asg (pe_call G_walked (hr.mono (by decide)) rfl T.g_walked T.F_walked.kp T.b_walked .nil pass0 (pa_cons (pv 0) (pa_cons (pv 1) (pa_cons (pv 2) (pa_cons (pv 3) (pa_cons (pv 4) pa_nil)))))) (pg_tup rfl (pgs_cons (pg_name (i := 5) sc_translated.nd rfl (Or.inl rfl)) (pgs_cons (pg_name (i := 6) sc_translated.nd rfl (Or.inl rfl)) (pgs_cons (pg_name (i := 7) sc_translated.nd rfl (Or.inl rfl)) (pgs_cons (pg_name (i := 8) sc_translated.nd rfl (Or.inl rfl)) pgs_nil))))))
        (pss_one (ps_ret (pe_tup (pa_cons (pv 5) (pa_cons (pv 6) (pa_cons (pv 7) pa_nil)))))))))))), ?_⟩
    clear G_need_memory G_need_frame G_need_address G_need_way G_need_side G_walked
    clear hr
    walk_at "rd"
    intro t1 l1 wv H1 nl s1 e1 e2
    walk_at "rd"
    intro t ht
    exact k t l1 _ (s1.free ht) nl (Hx.Same.upd s1 ht) upd_same (old_upd ht e2)
def st (a : Int) (i : Nat) : Option Int × Int := if a < 960 ∨ (a < 1024 ∧ ¬ i = 0) then (some a, 0) else (none, 7)
def sp_straight : Sp := fun vs H Q _ => ∃ (a : Int) (i : Nat), vs = [.int a, .str (wy i)] ∧ (0 ≤ a ∧ a < 4096) ∧ i < 3 ∧
  ∀ (t ll : Addr) (H' : Hp), Same H H' → H' t = some (.tup [plV (st a i).1, .int (st a i).2, .ref ll]) → H' ll = some (.lst []) → Q (.ref t) H'
theorem ok_straight (T : Txt w K mg) : FnOk P w K mg base CX0 5 T.f_straight T.fd_straight ["address", "way"] (sp_straight) := by
  have G_need_address := ok_need_address (P := P) (w := w) (base := base) T
  have G_need_way := ok_need_way (P := P) (w := w) (base := base) T
  have G_is_memory_place := ok_is_memory_place (P := P) (w := w) (base := base) T
  have G_is_place := ok_is_place (P := P) (w := w) (base := base) T
  refine T.F_straight.ok sc_straight (fun vs H Q E h => ?_) (fun cdv A outer s H vs Q E hr h => ?_)
  · obtain ⟨a, i, rfl, ha, hi, k⟩ := h; rfl
  · obtain ⟨a, i, rfl, ha, hi, k⟩ := h
    refine ⟨_, (pss_cons (ps_expr (pe_call G_need_address (hr.mono (by decide)) rfl T.g_need_address T.F_need_address.kp T.b_need_address .nil pass0 (pa_cons (pv 0) pa_nil)))
        (pss_cons (ps_expr (pe_call G_need_way (hr.mono (by decide)) rfl T.g_need_way T.F_need_way.kp T.b_need_way .nil pass0 (pa_cons (pv 1) pa_nil)))
        (pss_cons (ps_if (PW.pt (pw_or (pt_not (pt_val (pe_call G_is_place (hr.mono (by decide)) rfl T.g_is_place T.F_is_place.kp T.b_is_place .nil pass0 (pa_cons (pv 0) pa_nil)))) (pw_or1 (PW.pt (pw_and (pt_cmpR op_eq (pv 1) pe_str (nomark _)) (pw_and1 (pt_not (pt_val (pe_call G_is_memory_place (hr.mono (by decide)) rfl T.g_is_memory_place T.F_is_memory_place.kp T.b_is_memory_place .nil pass0 (pa_cons (pv 0) pa_nil))))))))))
          (pss_one (ps_ret (pe_tup (pa_cons pe_non (pa_cons (pe_gint rfl T.c_NO_SUCH_PLACE) (pa_cons (pe_lst pa_nil) pa_nil))))))
          pss_nil)
        (pss_one (ps_ret (pe_tup (pa_cons (pv 0) (pa_cons (pe_gint rfl T.c_NO_CAUSE) (pa_cons (pe_lst pa_nil) pa_nil))))))))), ?_⟩
    clear G_need_address G_need_way G_is_memory_place G_is_place
    clear hr
    walk_at "rd"
    have bad : st a i = (none, 7) → ∀ (ll : Addr) (H0 : Hp), Same H H0 → H0 ll = none → ∀ t : Addr, upd H0 ll (.lst []) t = none → Q (.ref t) (upd (upd H0 ll (.lst [])) t (.tup [.non, .int 7, .ref ll])) := fun e ll H0 s hl t ht => by
      refine k t ll _ (Hx.Same.upd (Hx.Same.upd s hl) ht) ?_ (old_upd ht upd_same)
      rw [upd_same, e]
      rfl
    have good : st a i = (some a, 0) → ∀ (ll : Addr) (H0 : Hp), Same H H0 → H0 ll = none → ∀ t : Addr, upd H0 ll (.lst []) t = none → Q (.ref t) (upd (upd H0 ll (.lst [])) t (.tup [.int a, .int 0, .ref ll])) := fun e ll H0 s hl t ht => by
      refine k t ll _ (Hx.Same.upd (Hx.Same.upd s hl) ht) ?_ (old_upd ht upd_same)
      rw [upd_same, e]
      rfl
    refine iteN (fun h => ?_) (fun h => ?_)
    · have e : st a i = (none, 7) := if_neg (by omega)
      walk_at "rd"
      intro ll hl
      walk_at "rd"
      intro t ht
      exact bad e ll H (L2.Same.refl _) hl t ht
    walk_at "rd"
    refine iteD (fun h2 => ?_) (fun h2 => ?_)
    · have i0 := wy0 hi h2
      walk_at "rd"
      refine iteN (fun h3 => ?_) (fun h3 => ?_)
      · have e : st a i = (none, 7) := if_neg (by omega)
        walk_at "rd"
        intro ll hl
        walk_at "rd"
        intro t ht
        exact bad e ll H (L2.Same.refl _) hl t ht
      · have e : st a i = (some a, 0) := if_pos (by omega)
        walk_at "rd"
        intro ll hl
        walk_at "rd"
        intro t ht
        exact good e ll H (L2.Same.refl _) hl t ht
    · have i0 : ¬ i = 0 := fun z => h2 (by rw [z]; rfl)
      have e : st a i = (some a, 0) := if_pos (by omega)
      walk_at "rd"
      intro ll hl
      walk_at "rd"
      intro t ht
      exact good e ll H (L2.Same.refl _) hl t ht
end
end K36

set_option Elab.async false
set_option linter.all false
set_option maxRecDepth 100000
set_option maxHeartbeats 8000000

namespace K36
open PySem PySem.Spec PyProof.Rows L2 Hx 
local macro_rules | `(tactic| walk_at "sm") => `(tactic| repeat' (first | assumption | apply Hx.Same.upd | exact L2.Same.refl _ | apply same_trans'))
local macro_rules | `(tactic| walk_at "hp") => `(tactic| repeat' (first | assumption | exact upd_same | apply old_upd | apply same_at))
local macro_rules | `(tactic| walk_at "rd") => `(tactic| repeat' (first | rfl | apply Exists.intro | apply And.intro | refine iteT ?_ | refine iteF ?_ | exact upd_same | exact SqL.of (by assumption) | exact SqL.of upd_same | exact SqT.of upd_same | exact SqT.of (by assumption) | ((with_reducible show (_ : Int) < _); omega) | ((with_reducible show (_ : Int) ≤ _); omega) | (show (_ : Prop); assumption) | exact Or.inl ⟨_, by assumption, rfl⟩ | exact Or.inl ⟨rfl, _, SqL.of (by assumption)⟩ | exact Or.inl ⟨rfl, _, SqL.of upd_same⟩ | apply old_upd | apply Hx.SqL.new | apply tyl_new | apply Pot.new | exact same_at (by assumption) (by assumption) | exact Or.inl (SqL.of (by assumption)) | exact Or.inl (by assumption) | exact Or.inl (SqL.of upd_same) | exact size_le (Nat.le_of_ble_eq_true rfl) | exact Nat.le_of_ble_eq_true rfl | exact True.intro | exact Or.inl rfl | exact Or.inr rfl | (show (_ : Prop); omega) | (show (_ : Prop); dsimp only; omega) | exact mulw64 (by omega) (by omega) | exact mulw64 (by (try dsimp only); omega) (by (try dsimp only); omega)))
set_option hygiene false in
local macro_rules | `(tactic| walk_at "fl") => `(tactic| simp only [pu_Memory_words, pi_Memory_words] at hO)
local macro_rules | `(tactic| walk_at "mem") => `(tactic| ((repeat (first | exact List.Mem.head _ | apply List.Mem.tail | fail)); done))
local macro_rules | `(tactic| walk_at "setat") => `(tactic| ((repeat (first | (with_reducible exact At.head) | (with_reducible apply At.tail) | (with_reducible apply At.app) | fail)); done))
set_option hygiene false in
local macro_rules | `(tactic| walk_at "dv") => `(tactic| ((repeat' (first | exact Dv.nil | exact Dv.of (by walk_at "mem") | exact Dv.ints _ | exact Dv1.of (by walk_at "mem") | exact Dv1.int _ | exact Dv1.non | exact Dv1.bl _ | exact Dv1.str _ | (with_reducible apply Dv.cons) | refine Dv1.tup (by walk_at "mem") ?_ | refine Dv1.lst (by walk_at "mem") ?_ | (with_reducible apply Dv.app) | fail)); done))
local macro_rules | `(tactic| walk_at "ft") => `(tactic| (first | (with_reducible exact Ft.refl) | ((with_reducible apply Ft.toL); focus walk_at "dv") | ((with_reducible apply Ft.toS); focus assumption) | (with_reducible apply Ft.lst) | (with_reducible apply Ft.Le) | (with_reducible apply Ft.dK) | (with_reducible apply Ft.De) | (with_reducible apply Ft.ins) | (with_reducible apply Ft.toL) | (with_reducible apply Ft.toS) | (with_reducible apply Ft.toD) | fail))
local macro_rules | `(tactic| walk_at "sbL") => `(tactic| repeat' (first | (with_reducible exact Sb.refl _) | exact Sb.nil | (with_reducible apply Sb.cons) | (with_reducible apply Sb.app) | (with_reducible exact Pk.one) | (with_reducible exact Pk.here) | (with_reducible exact Pk.all) | (with_reducible apply Pk.skip1) | (with_reducible apply Pk.skipB) | (with_reducible apply Sb.skip) | (with_reducible apply Sb.skipB) | ((with_reducible show Ft _ _ _ _); walk_at "ft") | ((with_reducible show (_ : List _) = _); (first | rfl | (simp [List.map_set, List.map_append]; done) | fail)) | fail))
local macro_rules | `(tactic| walk_at "sb") => `(tactic| ((walk_at "sbL"); done))
local macro_rules | `(tactic| walk_at "ps") => `(tactic| ((repeat' (first | (with_reducible exact Ps.refl) | exact Ps.nil | (with_reducible apply Ps.cons) | exact List.Mem.head _ | apply List.Mem.tail | (with_reducible apply Ps.skip) | fail)); done))
set_option hygiene false in
local macro_rules | `(tactic| walk_at "at") => `(tactic| first | assumption | exact Own.raw hO (by walk_at "mem") | exact Own.ptup hO (by walk_at "mem") | exact Own.plst hO (by walk_at "mem") | fail)
set_option hygiene false in
local macro_rules | `(tactic| walk_at "st") => `(tactic| (rw [upd_mkO hO]; generalize e : updX _ _ _ = H1; (first | ((apply Own.cset hO e); (focus walk_at "setat"); (try clear hO e); intro hO) | ((apply Own.cnewT hO e); (focus assumption); (try clear hO e); intro hO) | ((apply Own.cnew hO e); (focus assumption); (try clear hO e); intro hO) | fail)))
set_option hygiene false in
local macro_rules | `(tactic| walk_at "mk") => `(tactic| (intro p1 p2 f1 f2 f3; rw [upd_mkO hO]; generalize e : upd (updX _ _ _) _ _ = H1; apply Own.cmake hO f1 f2 f3 e; (try clear hO e); intro hO))
set_option hygiene false in
local macro_rules | `(tactic| walk_at "own") => `(tactic| (first | ((apply Own.sub hO); (focus walk_at "sb"); (focus walk_at "ps")) | ((apply Own.sub hF); (focus walk_at "sb"); (focus walk_at "ps")) | fail))
set_option hygiene false in
local macro_rules | `(tactic| walk_at "fin") => `(tactic| (refine Own.sub hO ?_ (by walk_at "ps"); walk_at "sbL"))
set_option hygiene false in
local macro_rules | `(tactic| walk_at "g1") => `(tactic| (first
 | ((with_reducible show (_ : Option HO) = _); walk_at "at")
 | ((with_reducible show (_ : Int) < _); omega) | ((with_reducible show (_ : Int) ≤ _); omega)
 | ((with_reducible show (_ : Nat) < _); (first | assumption | exact Nat.le_of_ble_eq_true rfl | exact size_lt (Nat.le_of_ble_eq_true rfl) | omega | (simp; done) | (simp; omega) | fail))
 | ((with_reducible show (_ : Nat) ≤ _); (first | assumption | exact Nat.le_of_ble_eq_true rfl | exact size_le (Nat.le_of_ble_eq_true rfl) | omega | (simp; done) | (simp; omega) | fail))
 | ((with_reducible show Own _ _ _ _); (first | walk_at "own" | (walk_at "st"; walk_at "own") | fail))
 | ((with_reducible show SqL _ _ _ _); (first | assumption | exact SqL.of (by walk_at "at") | fail))
 | ((with_reducible show SqT _ _ _ _); (first | assumption | exact hO.psq (by walk_at "mem") | exact SqT.of (by walk_at "at") | fail))
  | ((with_reducible show Cls _ _); exact Txt.cl_Memory T) | ((with_reducible show NoAttr _ _ _); exact Txt.n_Memory_words T) | (with_reducible exact gt_Memory_words) 
 | ((with_reducible show SqL _ _ _ _ ∨ SqT _ _ _ _); (first | exact Or.inl (SqL.of (by walk_at "at")) | exact Or.inr (SqT.of (by walk_at "at")) | fail))
 | ((with_reducible show Dp _ _ _ _); (first | assumption | exact hO.dpL (by walk_at "mem") | exact .lst (SqL.of (by walk_at "at")) (hO.all (by walk_at "dv")) | exact hO.one (by walk_at "dv") | fail))
 | ((with_reducible show TruV _ _ _ _); (first | exact Or.inl ⟨_, SqL.of (by walk_at "at"), rfl⟩ | exact Or.inr (Or.inr ⟨_, by walk_at "at", rfl⟩) | exact Or.inr (Or.inl ⟨_, SqT.of (by walk_at "at"), rfl⟩) | fail))
 | ((with_reducible show RgOk _ _); exact RgOk.of_le (by omega) (by omega) (by omega) (by omega))
 | rfl | (with_reducible assumption) | apply And.intro | apply Exists.intro | refine iteT ?_ | refine iteF ?_
 | (walk_at "st"; (try walk_at "fl"))
 | ((with_reducible show ∀ _ : Addr, _ = none → _); (fail_if_success (with_reducible show ∀ _ : Addr, _ = none → ∃ _ : Nat → Nat → Hp → Prop, _)); intro p fp; walk_at "st")
 | (refine Or.inl ⟨SqL.of (by walk_at "at"), ?_⟩) | (refine Or.inr ⟨SqT.of (by walk_at "at"), ?_⟩) | exact Or.inl ⟨_, by walk_at "at", rfl⟩ | exact Or.inl ⟨rfl, _, SqL.of (by walk_at "at")⟩ | exact tyl_of (by walk_at "at") | exact Or.inl (SqL.of (by walk_at "at")) | exact Or.inr (SqT.of (by walk_at "at")) | exact Or.inl (by walk_at "at") | exact size_le (Nat.le_of_ble_eq_true rfl) | exact Nat.le_of_ble_eq_true rfl | exact True.intro | exact Or.inl rfl | exact Or.inr rfl | (show (_ : Prop); assumption) | (show (_ : Prop); omega) | (show (_ : Prop); dsimp only; omega) | exact mulw64 (by omega) (by omega) | exact mulw64 (by (try dsimp only); omega) (by (try dsimp only); omega) | fail))
local macro_rules | `(tactic| walk_at "go") => `(tactic| repeat walk_at "g1")

section
variable {P : Program} {w : World} {K : PySem.W.Frag} {mg : Str → Option Value} {base : Heap}
def sp_Lpot (K : PySem.W.Frag) : Sp := fun vs H Q _ => ∃ (a : Addr) (ns : List Int), vs = [.ref a, .int 0] ∧ SqL K H a (ns.map V.int) ∧ ns.length ≤ 63 ∧ ∀ p (H' : Hp), Own K H' (pt p ++ []) [] → Q (.ref p) H'
theorem ok_Lpot (T : Txt w K mg) : FnOk P w K mg base CX0 1 T.f_Lpot T.fd_Lpot ["_law_script", "_law_k"] (sp_Lpot K) := by
  refine T.F_Lpot.ok sc_Lpot (fun vs H Q E h => ?_) (fun cdv A outer s H vs Q E hr h => ?_)
  · obtain ⟨a, ns, rfl, hS, hl, k⟩ := h; rfl
  · obtain ⟨a, ns, rfl, hS, hl, k⟩ := h
    refine ⟨_, (pss_cons (ps_set (i := 2) sc_Lpot.nd rfl (Or.inl rfl) (pe_op op_add (pe_op op_mulW pe_int (pv 1)) pe_int))
        (pss_cons (ps_if (pt_cmpR op_lt (pv 1) (pe_callB call_len_list (by rfl) T.m_len (by decide +kernel) (pa_cons (pv 0) pa_nil)) (nomark _))
          (pss_one (ps_set (i := 2) sc_Lpot.nd rfl (Or.inl rfl) (pe_callB call_abs (by rfl) T.m_abs (by decide +kernel) (pa_cons (pe_ix ix_list (pv 0) (pv 1) (fun _ _ => rfl)) pa_nil))))
          pss_nil)
        (pss_cons (ps_set (i := 3) sc_Lpot.nd rfl (Or.inl rfl) (pe_op op_add (pe_op op_add (pe_op op_mulW (pe_op op_mod (pe_callTy call_int1i (by rfl) T.m_int (by decide +kernel) (pa_cons (pv 2) pa_nil)) pe_int) pe_int) (pe_op op_mulW pe_int (pv 1))) pe_int))
        (pss_one (ps_ret (pe_lst (pa_cons (pe_callB (call_max2 rfl) (by rfl) T.m_max (by decide +kernel) (pa_cons pe_int (pa_cons (pe_op op_sub (pv 2) (pe_op op_pow pe_int pe_int)) pa_nil))) (pa_cons (pe_op op_add (pe_op op_mod (pe_callTy call_int1i (by rfl) T.m_int (by decide +kernel) (pa_cons (pv 3) pa_nil)) pe_int) pe_int) pa_nil)))))))), ?_⟩
    clear hr
    simp only [pt, List.cons_append, List.nil_append] at k
    have hO : Own K H [] [] := Own.start
    walk_at "go"
    refine iteD (fun h => ?_) (fun h => ?_)
    · obtain ⟨v, hv, hm⟩ := pick_at (xs := ns.map V.int) (d := 0) (by omega) (by simpa using h)
      obtain ⟨z, _, rfl⟩ := List.mem_map.mp hm
      walk_at "go"
      apply k
      walk_at "fin"
      exact ⟨_, _, rfl, by split <;> omega, by omega, by omega⟩
    · walk_at "go"
      apply k
      walk_at "fin"
      exact ⟨_, _, rfl, by split <;> omega, by omega, by omega⟩

theorem ok_Ldraw (T : Txt w K mg) : FnOk P w K mg base CX0 1 T.f_Ldraw T.fd_Ldraw ["_law_pot_here", "_law_size"] (spDrw K) := by
  refine T.F_Ldraw.ok sc_Ldraw (fun vs H Q E h => ?_) (fun cdv A outer s H vs Q E hr h => ?_)
  · obtain ⟨a, n, R, P, rfl, hO, hn, hn2, k⟩ := h; rfl
  · obtain ⟨a, n, R, P, rfl, hO, hn, hn2, k⟩ := h
    refine ⟨_, (pss_cons (ps_if (pt_cmpR op_gt (pe_ix ix_list (pv 0) pe_int (fun _ _ => rfl)) pe_int (nomark _))
          (pss_cons (ps_asg (pe_callB call_divmod (by rfl) T.m_divmod (by decide +kernel) (pa_cons (pe_ix ix_list (pv 0) pe_int (fun _ _ => rfl)) (pa_cons (pv 1) pa_nil))) (pg_tup rfl (pgs_cons (pg_sub (pv 0) pe_int set_list) (pgs_cons (pg_name (i := 2) sc_Ldraw.nd rfl (Or.inl rfl)) pgs_nil))))
          (pss_one (ps_ret (pv 2))))
          pss_nil)
        (pss_cons (ps_asg (pe_op op_mod (pe_callTy call_int1i (by rfl) T.m_int (by decide +kernel) (pa_cons (pe_op op_add (pe_op op_mulW (pe_ix ix_list (pv 0) pe_int (fun _ _ => rfl)) pe_int) pe_int) pa_nil)) pe_int) (pg_sub (pv 0) pe_int set_list))
        (pss_one (ps_ret (pe_op op_mod (pe_callTy call_int1i (by rfl) T.m_int (by decide +kernel) (pa_cons (pe_op op_fdiv (pe_op op_mod (pe_callTy call_int1i (by rfl) T.m_int (by decide +kernel) (pa_cons (pe_op op_mulW (pe_ix ix_list (pv 0) pe_int (fun _ _ => rfl)) (pe_ix ix_list (pv 0) pe_int (fun _ _ => rfl))) pa_nil)) pe_int) pe_int) pa_nil)) (pv 1)))))), ?_⟩
    clear hr
    simp only [pt, List.cons_append, List.nil_append] at hO k
    obtain ⟨o, ⟨x, y, rfl, hx, hy, hy2⟩, o1⟩ := hO.openS (a := a) (φ := PotO) (by walk_at "mem")
    replace hO := o1 _ (by walk_at "setat")
    clear o1
    walk_at "go"
    refine iteD (fun h => ?_) (fun h => ?_)
    · walk_at "go"
      refine k (x % n) _ (Int.emod_nonneg _ (by omega)) (Int.emod_lt_of_pos _ hn) ?_
      walk_at "fin"
      exact ⟨x / n, y, rfl, Int.ediv_nonneg hx (by omega), hy, hy2⟩
    · walk_at "go"
      refine k _ _ (Int.emod_nonneg _ (by omega)) (Int.emod_lt_of_pos _ hn) ?_
      walk_at "fin"
      exact ⟨x, _, rfl, hx, by omega, by omega⟩
def sp_Lpick (K : PySem.W.Frag) : Sp := fun vs H Q _ => ∃ (a l : Addr) (xs : List V) (R : List (Addr × Ob)) (P : List Pf), vs = [.ref a, .ref l] ∧ Own K H (pt a ++ ((l, .raw (.lst xs)) :: R)) P ∧ 0 < xs.length ∧ xs.length ≤ 1000 ∧
  ∀ (i : Nat) (v : V) (H' : Hp), xs[i]? = some v → Own K H' (pt a ++ ((l, .raw (.lst xs)) :: R)) P → Q v H'
theorem ok_Lpick (T : Txt w K mg) : FnOk P w K mg base CX0 2 T.f_Lpick T.fd_Lpick ["_law_pot_here", "_law_some"] (sp_Lpick K) := by
  have G_Ldraw := ok_Ldraw (P := P) (w := w) (base := base) T
  refine T.F_Lpick.ok sc_Lpick (fun vs H Q E h => ?_) (fun cdv A outer s H vs Q E hr h => ?_)
  · obtain ⟨a, l, xs, R, P, rfl, hO, h0, h1, k⟩ := h; rfl
  · obtain ⟨a, l, xs, R, P, rfl, hO, h0, h1, k⟩ := h
    refine ⟨_, (pss_one (ps_ret (pe_ix ix_list (pv 1) (pe_call G_Ldraw (hr.mono (by decide)) rfl T.g_Ldraw T.F_Ldraw.kp T.b_Ldraw .nil pass0 (pa_cons (pv 0) (pa_cons (pe_callB call_len_list (by rfl) T.m_len (by decide +kernel) (pa_cons (pv 1) pa_nil)) pa_nil))) (fun _ _ => rfl)))), ?_⟩
    clear G_Ldraw
    clear hr
    simp only [pt, List.cons_append, List.nil_append] at hO k
    walk_at "go"
    intro d H1 d0 d1 hO
    obtain ⟨d, rfl⟩ := Int.eq_ofNat_of_zero_le d0
    have dl : d < xs.length := by omega
    have ad : atI xs (d : Int) = some xs[d] := atI_nat (List.getElem?_eq_getElem dl)
    simp only [pt, List.cons_append, List.nil_append] at hO
    walk_at "go"
    exact k d _ _ (List.getElem?_eq_getElem dl) hO
abbrev Pr := Int × Int
abbrev prD (r : Pr) : PyData := .tuple [.int r.1, .int r.2]
/-- at l a list of these rows -/
structure LR (K : PySem.W.Frag) (H : Hp) (l : Addr) (rs : List Pr) : Prop where
  dp : Dp K H (.ref l) (.list (rs.map prD))
theorem dp_pr {K : PySem.W.Frag} {H : Hp} {v : V} {a b : Int} (h : Dp K H v (.tuple [.int a, .int b])) : ∃ t, v = .ref t ∧ SqT K H t [.int a, .int b] := by
  cases h with
  | tup hs ha =>
    cases ha with | cons x1 h1 => cases x1; cases h1 with | cons x2 h2 => cases x2; cases h2; exact ⟨_, rfl, hs⟩
def lk (rs : List Pr) (p : Int) : Int := match rs.find? (fun r => r.1 == p) with
  | some r => r.2
  | none => 0
theorem LR.open {K : PySem.W.Frag} {H : Hp} {l : Addr} {rs : List Pr} (h : LR K H l rs) : ∃ xs, SqL K H l xs ∧ DpAll K H xs (rs.map prD) := by
  cases h.dp with
  | lst hq ha => exact ⟨_, hq, ha⟩
def sp_Lword (K : PySem.W.Frag) : Sp := fun vs H Q _ => ∃ (a : Addr) (rs : List Pr) (p : Int), vs = [.ref a, .int p] ∧ LR K H a rs ∧ Q (.int (lk rs p)) H
theorem ok_Lword (T : Txt w K mg) : FnOk P w K mg base CX0 1 T.f_Lword T.fd_Lword ["_law_rows_here", "_law_place"] (sp_Lword K) := by
  refine T.F_Lword.ok sc_Lword (fun vs H Q E h => ?_) (fun cdv A outer s H vs Q E hr h => ?_)
  · obtain ⟨a, rs, p, rfl, hd, k⟩ := h; rfl
  · obtain ⟨a, rs, p, rfl, hd, k⟩ := h
    refine ⟨_, (pss_cons (ps_forS PassesOwn.never rfl (pi_list (pv 0)) (pg_tup rfl (pgs_cons (pg_name (i := 2) sc_Lword.nd rfl (Or.inl rfl)) (pgs_cons (pg_name (i := 3) sc_Lword.nd rfl (Or.inl rfl)) pgs_nil)))
          (pss_one (ps_if (pt_cmpR op_eq (pv 2) (pv 1) (nomark _))
            (pss_one (ps_ret (pv 3)))
            pss_nil)))
        (pss_one (ps_ret pe_int))), ?_⟩
    clear hr
    obtain ⟨xs, hl, ha⟩ := hd.open
    have hlen := ha.len
    rw [List.length_map] at hlen
    walk_at "rd"
    refine ⟨for_list (xs := xs) (fun i σ H' => Stop (∃ t1 t2, σ = [some (.ref a), some (.int p), t1, t2] ∧ H' = H ∧ (rs.take i).find? (fun r => r.1 == p) = none)) ⟨⟨none, none, rfl, rfl, rfl⟩⟩ (fun i σ H' hi h => ?_) (fun i v σ H' hv h => ?_) (fun σ H' h => ?_)⟩
    · obtain ⟨t1, t2, rfl, rfl, hno⟩ := h.h
      exact hl
    · obtain ⟨t1, t2, rfl, rfl, hno⟩ := h.h
      clear h
      obtain ⟨d, hd1, hd2⟩ := ha.get hv
      rw [List.getElem?_map] at hd1
      obtain ⟨z, hz1, rfl⟩ := Option.map_eq_some_iff.mp hd1
      obtain ⟨tz, rfl, ht⟩ := dp_pr hd2
      have hi : i < rs.length := (List.getElem?_eq_some_iff.mp hz1).1
      walk_at "rd"
      refine iteD (fun h1 => ?_) (fun h1 => ?_)
      · have h2 : z.1 = p := V.int.inj h1
        have e1 : rs.find? (fun z => z.1 == p) = some z := by
          rw [← List.take_append_drop i rs, List.find?_append, hno, List.drop_eq_getElem_cons hi, List.find?_cons_of_pos]
          · rw [List.getElem?_eq_getElem hi] at hz1; simpa using hz1
          · rw [List.getElem?_eq_getElem hi] at hz1; injection hz1 with e; simp [e, h2]
        have e3 : lk rs p = z.2 := by unfold lk; rw [e1]
        walk_at "rd"
        exact qint k e3.symm
      · have h2 : ¬ z.1 = p := fun e => h1 (congrArg V.int e)
        walk_at "rd"
        exact ⟨⟨_, _, rfl, rfl, by
          rw [List.take_add_one, hz1, List.find?_append, hno]; simp [h2]⟩⟩
    · obtain ⟨t1, t2, rfl, rfl, hno⟩ := h.h
      rw [hlen, List.take_length] at hno
      have e3 : lk rs p = 0 := by
        unfold lk
        rw [hno]
      walk_at "rd"
      exact qint k e3.symm
theorem mt_indexW {X : Cx} : MtR X "list.index" (fun x xs H Q => ∃ (a : Addr) (i : Nat), x = V.ref a ∧ xs = [V.str (wy i)] ∧ i < 3 ∧ SqL X.K H a [V.str "fetch", V.str "load", V.str "store"] ∧ Q (.int (i : Int)) H) := by
  intro pins s σ H x xs v us Q I rx rxs h
  obtain ⟨a, i, rfl, rfl, hi, hs, q⟩ := h
  refine mt_index pins s σ H _ _ v us Q I rx rxs ?_
  have hi3 : i = 0 ∨ i = 1 ∨ i = 2 := by omega
  rcases hi3 with rfl | rfl | rfl
  · exact ⟨a, _, _, 0, _, rfl, rfl, hs, rfl, rfl, rfl, by decide, fun m z' hm => absurd hm (by omega), q⟩
  · refine ⟨a, _, _, 1, _, rfl, rfl, hs, rfl, rfl, rfl, by decide, fun m z' hm he => ?_, q⟩
    have hm0 : m = 0 := by omega
    subst hm0
    injection he with he
    rw [← he]; decide
  · refine ⟨a, _, _, 2, _, rfl, rfl, hs, rfl, rfl, rfl, by decide, fun m z' hm he => ?_, q⟩
    have hm0 : m = 0 ∨ m = 1 := by omega
    rcases hm0 with rfl | rfl
    · injection he with he
      rw [← he]; decide
    · injection he with he
      rw [← he]; decide
def sp_cause : Sp := fun vs H Q _ => ∃ i : Nat, vs = [.str (wy i)] ∧ i < 3 ∧ ∀ H', Same H H' → Q (.int (4 + (i : Int))) H'
theorem ok_Lcause (T : Txt w K mg) : FnOk P w K mg base CX0 1 T.f_Lcause T.fd_Lcause ["_law_way"] (sp_cause) := by
  refine T.F_Lcause.ok sc_Lcause (fun vs H Q E h => ?_) (fun cdv A outer s H vs Q E hr h => ?_)
  · obtain ⟨i, rfl, hi, k⟩ := h; rfl
  · obtain ⟨i, rfl, hi, k⟩ := h
    refine ⟨_, (pss_one (ps_ret (pe_op op_add pe_int (pe_bm PySem.F.plainAttrs_list PySem.F.slot_list_index PySem.F.type_list_index mt_indexW (pe_lst (pa_cons pe_str (pa_cons pe_str (pa_cons pe_str pa_nil)))) (pa_cons (pv 0) pa_nil))))), ?_⟩
    clear hr
    walk_at "rd"
    intro t ht
    have q := k _ (same_upd (o := .lst [V.str "fetch", V.str "load", V.str "store"]) ht)
    walk_at "rd"
def sp_second : Sp := fun vs H Q _ => ∃ (x a : Int) (i : Nat) (u : Bool), vs = [.int x, .int a, .str (wy i), .bl u] ∧ (0 ≤ x ∧ x < 65536) ∧ (0 ≤ a ∧ a < 4096) ∧ i < 3 ∧
  ∀ (t : Addr) (H' : Hp), Same H H' → H' t = some (.tup [plV (sec x a i u).1, .int (sec x a i u).2]) → Q (.ref t) H'
theorem ok_Lsecond (T : Txt w K mg) : FnOk P w K mg base CX0 2 T.f_Lsecond T.fd_Lsecond ["_law_word_here", "_law_address", "_law_way", "_law_is_user"] (sp_second) := by
  have G_Lcause := ok_Lcause (P := P) (w := w) (base := base) T
  refine T.F_Lsecond.ok sc_Lsecond (fun vs H Q E h => ?_) (fun cdv A outer s H vs Q E hr h => ?_)
  · obtain ⟨x, a, i, u, rfl, hx, ha, hi, k⟩ := h; rfl
  · obtain ⟨x, a, i, u, rfl, hx, ha, hi, k⟩ := h
    refine ⟨_, (pss_cons (ps_if (PW.pt (pw_or (pt_cmpR op_lt (pv 0) pe_int (nomark _)) (pw_or1 (PW.pt (pw_and (pt_val (pv 3)) (pw_and1 (pt_cmpR op_eq (pe_op op_mod (pe_op op_fdiv (pv 0) pe_int) pe_int) pe_int (nomark _))))))))
          (pss_one (ps_ret (pe_tup (pa_cons pe_non (pa_cons (pe_call G_Lcause (hr.mono (by decide)) rfl T.g_Lcause T.F_Lcause.kp T.b_Lcause .nil pass0 (pa_cons (pv 2) pa_nil)) pa_nil)))))
          pss_nil)
        (pss_cons (ps_if (PW.pt (pw_and (pt_cmpR op_eq (pv 2) pe_str (nomark _)) (pw_and1 (pt_cmpR op_eq (pe_op op_mod (pe_op op_fdiv (pv 0) pe_int) pe_int) pe_int (nomark _)))))
          (pss_one (ps_ret (pe_tup (pa_cons pe_non (pa_cons (pe_call G_Lcause (hr.mono (by decide)) rfl T.g_Lcause T.F_Lcause.kp T.b_Lcause .nil pass0 (pa_cons (pv 2) pa_nil)) pa_nil)))))
          pss_nil)
        (pss_cons (ps_set (i := 4) sc_Lsecond.nd rfl (Or.inl rfl) (pe_op op_add (pe_op op_mulW (pe_op op_mod (pv 0) pe_int) pe_int) (pe_op op_mod (pv 1) pe_int)))
        (pss_one (ps_ret (pe_ifExp (PW.pt (pw_and (pt_cmpR op_eq (pv 2) pe_str (nomark _)) (pw_and1 (pt_cmpR op_ge (pv 4) pe_int (nomark _))))) (pe_tup (pa_cons pe_non (pa_cons pe_int pa_nil))) (pe_tup (pa_cons (pv 4) (pa_cons pe_int pa_nil))))))))), ?_⟩
    clear G_Lcause
    clear hr
    walk_at "rd"
    refine iteD (fun h1 => ?_) (fun h1 => ?_)
    · have es : sec x a i u = (none, 4 + (i : Int)) := by unfold sec; rw [if_pos h1]
      rw [es] at k
      walk_at "rd"
      intro H1 s1
      walk_at "rd"
      intro t2 ht2
      exact k t2 _ (Hx.Same.upd s1 ht2) upd_same
    have el : ∀ u, lets (x / 8192 % 4) i u = (!(u && decide (x / 8192 % 2 = 0)) && (decide (i ≠ 2) || decide (x / 16384 % 2 ≠ 0))) := fun u => by
      unfold lets
      rw [show x / 8192 % 4 % 2 = x / 8192 % 2 by omega, show x / 8192 % 4 / 2 % 2 = x / 16384 % 2 by omega]
    cases u with
    | false =>
      walk_at "rd"
      refine iteD (fun h2 => ?_) (fun h2 => ?_)
      · have i2 := wy2 hi h2
        walk_at "rd"
        refine iteD (fun h3 => ?_) (fun h3 => ?_)
        · have h3' : x / 16384 % 2 = 0 := V.int.inj h3
          have es : sec x a i false = (none, 4 + (i : Int)) := by unfold sec; rw [if_neg h1, if_pos (by rw [el]; simp [i2, h3'])]
          rw [es] at k
          walk_at "rd"
          intro H1 s1
          walk_at "rd"
          intro t2 ht2
          exact k t2 _ (Hx.Same.upd s1 ht2) upd_same
        · have h3' : ¬ x / 16384 % 2 = 0 := fun z => h3 (congrArg V.int z)
          have nb : ¬ lets (x / 8192 % 4) i false = false := by rw [el]; simp [h3']
          walk_at "rd"
          refine iteD (fun h4 => ?_) (fun h4 => ?_)
          · have i0 := wy0 hi h4
            omega
          · have es : sec x a i false = (some (x % 64 * 16 + a % 16), 0) := by unfold sec; rw [if_neg h1, if_neg nb, if_neg (fun z => h4 (by rw [z.1]; rfl))]
            rw [es] at k
            walk_at "rd"
            intro t2 ht2
            exact k t2 _ (same_upd ht2) upd_same
      · have i2 : ¬ i = 2 := fun z => h2 (by rw [z]; rfl)
        have nb : ¬ lets (x / 8192 % 4) i false = false := by rw [el]; simp [i2]
        walk_at "rd"
        refine iteD (fun h4 => ?_) (fun h4 => ?_)
        · have i0 := wy0 hi h4
          walk_at "rd"
          refine iteD (fun h5 => ?_) (fun h5 => ?_)
          · have es : sec x a i false = (none, 7) := by unfold sec; rw [if_neg h1, if_neg nb, if_pos ⟨i0, by omega⟩]
            rw [es] at k
            walk_at "rd"
            intro t2 ht2
            exact k t2 _ (same_upd ht2) upd_same
          · have es : sec x a i false = (some (x % 64 * 16 + a % 16), 0) := by unfold sec; rw [if_neg h1, if_neg nb, if_neg (fun z => by omega)]
            rw [es] at k
            walk_at "rd"
            intro t2 ht2
            exact k t2 _ (same_upd ht2) upd_same
        · have es : sec x a i false = (some (x % 64 * 16 + a % 16), 0) := by unfold sec; rw [if_neg h1, if_neg nb, if_neg (fun z => h4 (by rw [z.1]; rfl))]
          rw [es] at k
          walk_at "rd"
          intro t2 ht2
          exact k t2 _ (same_upd ht2) upd_same
    | true =>
      walk_at "rd"
      refine iteD (fun h0 => ?_) (fun h0 => ?_)
      · have h0' : x / 8192 % 2 = 0 := V.int.inj h0
        have es : sec x a i true = (none, 4 + (i : Int)) := by unfold sec; rw [if_neg h1, if_pos (by rw [el]; simp [h0'])]
        rw [es] at k
        walk_at "rd"
        intro H1 s1
        walk_at "rd"
        intro t2 ht2
        exact k t2 _ (Hx.Same.upd s1 ht2) upd_same
      · have h0' : ¬ x / 8192 % 2 = 0 := fun z => h0 (congrArg V.int z)
        walk_at "rd"
        refine iteD (fun h2 => ?_) (fun h2 => ?_)
        · have i2 := wy2 hi h2
          walk_at "rd"
          refine iteD (fun h3 => ?_) (fun h3 => ?_)
          · have h3' : x / 16384 % 2 = 0 := V.int.inj h3
            have es : sec x a i true = (none, 4 + (i : Int)) := by unfold sec; rw [if_neg h1, if_pos (by rw [el]; simp [i2, h3'])]
            rw [es] at k
            walk_at "rd"
            intro H1 s1
            walk_at "rd"
            intro t2 ht2
            exact k t2 _ (Hx.Same.upd s1 ht2) upd_same
          · have h3' : ¬ x / 16384 % 2 = 0 := fun z => h3 (congrArg V.int z)
            have nb : ¬ lets (x / 8192 % 4) i true = false := by rw [el]; simp [h3', h0']
            walk_at "rd"
            refine iteD (fun h4 => ?_) (fun h4 => ?_)
            · have i0 := wy0 hi h4
              omega
            · have es : sec x a i true = (some (x % 64 * 16 + a % 16), 0) := by unfold sec; rw [if_neg h1, if_neg nb, if_neg (fun z => h4 (by rw [z.1]; rfl))]
              rw [es] at k
              walk_at "rd"
              intro t2 ht2
              exact k t2 _ (same_upd ht2) upd_same
        · have i2 : ¬ i = 2 := fun z => h2 (by rw [z]; rfl)
          have nb : ¬ lets (x / 8192 % 4) i true = false := by rw [el]; simp [i2, h0']
          walk_at "rd"
          refine iteD (fun h4 => ?_) (fun h4 => ?_)
          · have i0 := wy0 hi h4
            walk_at "rd"
            refine iteD (fun h5 => ?_) (fun h5 => ?_)
            · have es : sec x a i true = (none, 7) := by unfold sec; rw [if_neg h1, if_neg nb, if_pos ⟨i0, by omega⟩]
              rw [es] at k
              walk_at "rd"
              intro t2 ht2
              exact k t2 _ (same_upd ht2) upd_same
            · have es : sec x a i true = (some (x % 64 * 16 + a % 16), 0) := by unfold sec; rw [if_neg h1, if_neg nb, if_neg (fun z => by omega)]
              rw [es] at k
              walk_at "rd"
              intro t2 ht2
              exact k t2 _ (same_upd ht2) upd_same
          · have es : sec x a i true = (some (x % 64 * 16 + a % 16), 0) := by unfold sec; rw [if_neg h1, if_neg nb, if_neg (fun z => h4 (by rw [z.1]; rfl))]
            rw [es] at k
            walk_at "rd"
            intro t2 ht2
            exact k t2 _ (same_upd ht2) upd_same
theorem lk_bd {rs : List Pr} (h : ∀ r ∈ rs, 0 ≤ r.2 ∧ r.2 < 65536) (p : Int) : 0 ≤ lk rs p ∧ lk rs p < 65536 := by
  unfold lk
  cases e : rs.find? (fun r => r.1 == p) with
  | none => decide
  | some r => exact h r (List.mem_of_find?_eq_some e)
def sp_told (K : PySem.W.Frag) : Sp := fun vs H Q _ => ∃ (b : Addr) (rs : List Pr) (r a : Int) (i : Nat) (u : Bool) (z : Str), vs = [.ref b, .int r, .int a, .str z, .bl u] ∧ z = wy i ∧ LR K H b rs ∧ (∀ r ∈ rs, 0 ≤ r.2 ∧ r.2 < 65536) ∧ (0 ≤ r ∧ r < 64) ∧ (0 ≤ a ∧ a < 4096) ∧ i < 3 ∧
  ∀ (t ll : Addr) (H' : Hp), H t = none → H ll = none → Same H H' → H' t = some (.tup [plV (tl (lk rs) r a i u).place, .int (tl (lk rs) r a i u).cause, .ref ll]) → H' ll = some (.lst ((tl (lk rs) r a i u).leans.map V.int)) → Q (.ref t) H'
theorem ok_Ltold (T : Txt w K mg) : FnOk P w K mg base CX0 3 T.f_Ltold T.fd_Ltold ["_law_rows_here", "_law_root", "_law_address", "_law_way", "_law_is_user"] (sp_told K) := by
  have G_Lword := ok_Lword (P := P) (w := w) (base := base) T
  have G_Lcause := ok_Lcause (P := P) (w := w) (base := base) T
  have G_Lsecond := ok_Lsecond (P := P) (w := w) (base := base) T
  refine T.F_Ltold.ok sc_Ltold (fun vs H Q E h => ?_) (fun cdv A outer s H vs Q E hr h => ?_)
  · obtain ⟨b, rs, r, a, i, u, _, rfl, rfl, hd, hb, hrt, ha, hi, k⟩ := h; rfl
  · obtain ⟨b, rs, r, a, i, u, _, rfl, rfl, hd, hb, hrt, ha, hi, k⟩ := h
    refine ⟨_, (pss_cons (ps_set (i := 5) sc_Ltold.nd rfl (Or.inl rfl) (pe_op op_add (pe_op op_mulW (pv 1) pe_int) (pe_op op_fdiv (pv 2) pe_int)))
        (pss_cons (ps_if (pt_cmpR op_ge (pv 5) pe_int (nomark _))
          (pss_one (ps_ret (pe_tup (pa_cons pe_non (pa_cons pe_int (pa_cons (pe_lst pa_nil) pa_nil))))))
          pss_nil)
        (pss_cons (ps_set (i := 6) sc_Ltold.nd rfl (Or.inl rfl) (pe_call G_Lword (hr.mono (by decide)) rfl T.g_Lword T.F_Lword.kp T.b_Lword .nil pass0 (pa_cons (pv 0) (pa_cons (pv 5) pa_nil))))
        (pss_cons (ps_if (pt_cmpR op_lt (pv 6) pe_int (nomark _))
          (pss_one (ps_ret (pe_tup (pa_cons pe_non (pa_cons (pe_call G_Lcause (hr.mono (by decide)) rfl T.g_Lcause T.F_Lcause.kp T.b_Lcause .nil pass0 (pa_cons (pv 3) pa_nil)) (pa_cons (pe_lst (pa_cons (pv 5) pa_nil)) pa_nil))))))
          pss_nil)
        (pss_cons (ps_set (i := 7) sc_Ltold.nd rfl (Or.inl rfl) (pe_op op_add (pe_op op_mulW (pe_op op_mod (pv 6) pe_int) pe_int) (pe_op op_mod (pe_op op_fdiv (pv 2) pe_int) pe_int)))
        (pss_cons (ps_if (pt_cmpR op_ge (pv 7) pe_int (nomark _))
          (pss_one (ps_ret (pe_tup (pa_cons pe_non (pa_cons pe_int (pa_cons (pe_lst (pa_cons (pv 5) pa_nil)) pa_nil))))))
          pss_nil)
        (pss_cons (ps_asg (pe_call G_Lsecond (hr.mono (by decide)) rfl T.g_Lsecond T.F_Lsecond.kp T.b_Lsecond .nil pass0 (pa_cons (pe_call G_Lword (hr.mono (by decide)) rfl T.g_Lword T.F_Lword.kp T.b_Lword .nil pass0 (pa_cons (pv 0) (pa_cons (pv 7) pa_nil))) (pa_cons (pv 2) (pa_cons (pv 3) (pa_cons (pv 4) pa_nil))))) (pg_tup rfl (pgs_cons (pg_name (i := 8) sc_Ltold.nd rfl (Or.inl rfl)) (pgs_cons (pg_name (i := 9) sc_Ltold.nd rfl (Or.inl rfl)) pgs_nil))))
        (pss_one (ps_ret (pe_tup (pa_cons (pv 8) (pa_cons (pv 9) (pa_cons (pe_lst (pa_cons (pv 5) (pa_cons (pv 7) pa_nil))) pa_nil))))))))))))), ?_⟩
    clear G_Lword G_Lcause G_Lsecond
    clear hr
    walk_at "rd"
    have hf0 : 0 ≤ (r * 16 + a / 256) := by omega
    refine iteD (fun h => ?_) (fun h => ?_)
    · have et : tl (lk rs) r a i u = ⟨none, 7, []⟩ := by unfold tl; rw [if_pos (by omega)]
      rw [et] at k
      walk_at "rd"
      intro ll hl
      walk_at "rd"
      intro t ht
      exact k t ll _ ((same_upd hl).free ht) hl (Hx.Same.upd (same_upd hl) ht) upd_same (old_upd ht upd_same)
    have g0 := lk_bd hb (r * 16 + a / 256)
    have nf : ¬ 960 ≤ (r * 16 + a / 256) := by omega
    walk_at "rd"
    refine iteD (fun h1 => ?_) (fun h1 => ?_)
    · have et : tl (lk rs) r a i u = ⟨none, 4 + i, [(r * 16 + a / 256)]⟩ := by unfold tl; rw [if_neg nf, if_pos (by omega)]
      rw [et] at k
      walk_at "rd"
      intro H1 s1
      walk_at "rd"
      intro ll hl
      walk_at "rd"
      intro t ht
      exact k t ll _ ((Hx.Same.upd s1 hl).free ht) (s1.free hl) (Hx.Same.upd (Hx.Same.upd s1 hl) ht) upd_same (old_upd ht upd_same)
    have nt : ¬ lk rs (r * 16 + a / 256) < 32768 := by omega
    walk_at "rd"
    have hq0 : 0 ≤ (lk rs (r * 16 + a / 256) % 64 * 16 + a / 16 % 16) := by omega
    refine iteD (fun h2 => ?_) (fun h2 => ?_)
    · have et : tl (lk rs) r a i u = ⟨none, 7, [(r * 16 + a / 256)]⟩ := by unfold tl; rw [if_neg nf, if_neg nt, if_pos (by omega)]
      rw [et] at k
      walk_at "rd"
      intro ll hl
      walk_at "rd"
      intro t ht
      exact k t ll _ ((same_upd hl).free ht) hl (Hx.Same.upd (same_upd hl) ht) upd_same (old_upd ht upd_same)
    have et : tl (lk rs) r a i u = ⟨(sec (lk rs (lk rs (r * 16 + a / 256) % 64 * 16 + a / 16 % 16)) a i u).1, (sec (lk rs (lk rs (r * 16 + a / 256) % 64 * 16 + a / 16 % 16)) a i u).2, [(r * 16 + a / 256), (lk rs (r * 16 + a / 256) % 64 * 16 + a / 16 % 16)]⟩ := by unfold tl; rw [if_neg nf, if_neg nt, if_neg (by omega)]
    rw [et] at k
    have gq := lk_bd hb (lk rs (r * 16 + a / 256) % 64 * 16 + a / 16 % 16)
    walk_at "rd"
    intro t2 H2 s2 e2
    walk_at "rd"
    intro ll hl
    walk_at "rd"
    intro t ht
    exact k t ll _ ((Hx.Same.upd s2 hl).free ht) (s2.free hl) (Hx.Same.upd (Hx.Same.upd s2 hl) ht) upd_same (old_upd ht upd_same)
def sp_entry (K : PySem.W.Frag) : Sp := fun vs H Q _ => ∃ (a : Addr) (f : Int) (R : List (Addr × Ob)) (P : List Pf), vs = [.ref a, .int f] ∧ Own K H (pt a ++ R) P ∧ (0 ≤ f ∧ f < 64) ∧ ∀ (z : Int) (H' : Hp), (0 ≤ z ∧ z < 65536) → Own K H' (pt a ++ R) P → Q (.int z) H'
theorem ok_Lentry (T : Txt w K mg) : FnOk P w K mg base CX0 2 T.f_Lentry T.fd_Lentry ["_law_pot_here", "_law_frame"] (sp_entry K) := by
  have G_Ldraw := ok_Ldraw (P := P) (w := w) (base := base) T
  refine T.F_Lentry.ok sc_Lentry (fun vs H Q E h => ?_) (fun cdv A outer s H vs Q E hr h => ?_)
  · obtain ⟨a, f, R, P, rfl, hO, hf, k⟩ := h; rfl
  · obtain ⟨a, f, R, P, rfl, hO, hf, k⟩ := h
    refine ⟨_, (pss_cons (ps_set (i := 2) sc_Lentry.nd rfl (Or.inl rfl) (pe_ifExp (pt_cmpR op_gt (pe_call G_Ldraw (hr.mono (by decide)) rfl T.g_Ldraw T.F_Ldraw.kp T.b_Ldraw .nil pass0 (pa_cons (pv 0) (pa_cons pe_int pa_nil))) pe_int (nomark _)) pe_int pe_int))
        (pss_cons (ps_set (i := 2) sc_Lentry.nd rfl (Or.inl rfl) (pe_op op_add (pv 2) (pe_op op_mulW pe_int (pe_call G_Ldraw (hr.mono (by decide)) rfl T.g_Ldraw T.F_Ldraw.kp T.b_Ldraw .nil pass0 (pa_cons (pv 0) (pa_cons pe_int pa_nil))))))
        (pss_one (ps_ret (pe_op op_add (pe_op op_add (pv 2) (pe_op op_mulW pe_int (pe_call G_Ldraw (hr.mono (by decide)) rfl T.g_Ldraw T.F_Ldraw.kp T.b_Ldraw .nil pass0 (pa_cons (pv 0) (pa_cons pe_int pa_nil))))) (pv 1)))))), ?_⟩
    clear G_Ldraw
    clear hr
    walk_at "go"
    intro d1 H1 d10 d11 hO
    walk_at "go"
    refine iteD (fun h => ?_) (fun h => ?_)
    · walk_at "go"
      intro d2 H2 d20 d21 hO
      walk_at "go"
      intro d3 H3 d30 d31 hO
      walk_at "go"
      exact k (32768 + 8192 * d2 + 64 * d3 + f) _ (by omega) hO
    · walk_at "go"
      intro d2 H2 d20 d21 hO
      walk_at "go"
      intro d3 H3 d30 d31 hO
      walk_at "go"
      exact k (0 + 8192 * d2 + 64 * d3 + f) _ (by omega) hO
end
end K36

set_option Elab.async false
set_option linter.all false
set_option maxRecDepth 100000
set_option maxHeartbeats 8000000

namespace K36
open PySem PySem.Spec PyProof.Rows L2 Hx 
local macro_rules | `(tactic| walk_at "sm") => `(tactic| repeat' (first | assumption | apply Hx.Same.upd | exact L2.Same.refl _ | apply same_trans'))
local macro_rules | `(tactic| walk_at "hp") => `(tactic| repeat' (first | assumption | exact upd_same | apply old_upd | apply same_at))
local macro_rules | `(tactic| walk_at "rd") => `(tactic| repeat' (first | rfl | apply Exists.intro | apply And.intro | refine iteT ?_ | refine iteF ?_ | exact upd_same | exact SqL.of (by assumption) | exact SqL.of upd_same | exact SqT.of upd_same | exact SqT.of (by assumption) | ((with_reducible show (_ : Int) < _); omega) | ((with_reducible show (_ : Int) ≤ _); omega) | (show (_ : Prop); assumption) | exact Or.inl ⟨_, by assumption, rfl⟩ | exact Or.inl ⟨rfl, _, SqL.of (by assumption)⟩ | exact Or.inl ⟨rfl, _, SqL.of upd_same⟩ | apply old_upd | apply Hx.SqL.new | apply tyl_new | apply Pot.new | exact same_at (by assumption) (by assumption) | exact Or.inl (SqL.of (by assumption)) | exact Or.inl (by assumption) | exact Or.inl (SqL.of upd_same) | exact size_le (Nat.le_of_ble_eq_true rfl) | exact Nat.le_of_ble_eq_true rfl | exact True.intro | exact Or.inl rfl | exact Or.inr rfl | (show (_ : Prop); omega) | (show (_ : Prop); dsimp only; omega) | exact mulw64 (by omega) (by omega) | exact mulw64 (by (try dsimp only); omega) (by (try dsimp only); omega)))
set_option hygiene false in
local macro_rules | `(tactic| walk_at "fl") => `(tactic| simp only [pu_Memory_words, pi_Memory_words] at hO)
local macro_rules | `(tactic| walk_at "mem") => `(tactic| ((repeat (first | exact List.Mem.head _ | apply List.Mem.tail | fail)); done))
local macro_rules | `(tactic| walk_at "setat") => `(tactic| ((repeat (first | (with_reducible exact At.head) | (with_reducible apply At.tail) | (with_reducible apply At.app) | fail)); done))
set_option hygiene false in
local macro_rules | `(tactic| walk_at "dv") => `(tactic| ((repeat' (first | exact Dv.nil | exact Dv.of (by walk_at "mem") | exact Dv.ints _ | exact Dv1.of (by walk_at "mem") | exact Dv1.int _ | exact Dv1.non | exact Dv1.bl _ | exact Dv1.str _ | (with_reducible apply Dv.cons) | refine Dv1.tup (by walk_at "mem") ?_ | refine Dv1.lst (by walk_at "mem") ?_ | (with_reducible apply Dv.app) | fail)); done))
local macro_rules | `(tactic| walk_at "ft") => `(tactic| (first | (with_reducible exact Ft.refl) | ((with_reducible apply Ft.toL); focus walk_at "dv") | ((with_reducible apply Ft.toS); focus assumption) | (with_reducible apply Ft.lst) | (with_reducible apply Ft.Le) | (with_reducible apply Ft.dK) | (with_reducible apply Ft.De) | (with_reducible apply Ft.ins) | (with_reducible apply Ft.toL) | (with_reducible apply Ft.toS) | (with_reducible apply Ft.toD) | fail))
local macro_rules | `(tactic| walk_at "sbL") => `(tactic| repeat' (first | (with_reducible exact Sb.refl _) | exact Sb.nil | (with_reducible apply Sb.cons) | (with_reducible apply Sb.app) | (with_reducible exact Pk.one) | (with_reducible exact Pk.here) | (with_reducible exact Pk.all) | (with_reducible apply Pk.skip1) | (with_reducible apply Pk.skipB) | (with_reducible apply Sb.skip) | (with_reducible apply Sb.skipB) | ((with_reducible show Ft _ _ _ _); walk_at "ft") | ((with_reducible show (_ : List _) = _); (first | rfl | (simp [List.map_set, List.map_append]; done) | fail)) | fail))
local macro_rules | `(tactic| walk_at "sb") => `(tactic| ((walk_at "sbL"); done))
local macro_rules | `(tactic| walk_at "ps") => `(tactic| ((repeat' (first | (with_reducible exact Ps.refl) | exact Ps.nil | (with_reducible apply Ps.cons) | exact List.Mem.head _ | apply List.Mem.tail | (with_reducible apply Ps.skip) | fail)); done))
set_option hygiene false in
local macro_rules | `(tactic| walk_at "at") => `(tactic| first | assumption | exact Own.raw hO (by walk_at "mem") | exact Own.ptup hO (by walk_at "mem") | exact Own.plst hO (by walk_at "mem") | fail)
set_option hygiene false in
local macro_rules | `(tactic| walk_at "st") => `(tactic| (rw [upd_mkO hO]; generalize e : updX _ _ _ = H1; (first | ((apply Own.cset hO e); (focus walk_at "setat"); (try clear hO e); intro hO) | ((apply Own.cnewT hO e); (focus assumption); (try clear hO e); intro hO) | ((apply Own.cnew hO e); (focus assumption); (try clear hO e); intro hO) | fail)))
set_option hygiene false in
local macro_rules | `(tactic| walk_at "mk") => `(tactic| (intro p1 p2 f1 f2 f3; rw [upd_mkO hO]; generalize e : upd (updX _ _ _) _ _ = H1; apply Own.cmake hO f1 f2 f3 e; (try clear hO e); intro hO))
set_option hygiene false in
local macro_rules | `(tactic| walk_at "own") => `(tactic| (first | ((apply Own.sub hO); (focus walk_at "sb"); (focus walk_at "ps")) | ((apply Own.sub hF); (focus walk_at "sb"); (focus walk_at "ps")) | fail))
set_option hygiene false in
local macro_rules | `(tactic| walk_at "fin") => `(tactic| (refine Own.sub hO ?_ (by walk_at "ps"); walk_at "sbL"))
set_option hygiene false in
local macro_rules | `(tactic| walk_at "g1") => `(tactic| (first
 | ((with_reducible show (_ : Option HO) = _); walk_at "at")
 | ((with_reducible show (_ : Int) < _); omega) | ((with_reducible show (_ : Int) ≤ _); omega)
 | ((with_reducible show (_ : Nat) < _); (first | assumption | exact Nat.le_of_ble_eq_true rfl | exact size_lt (Nat.le_of_ble_eq_true rfl) | omega | (simp; done) | (simp; omega) | fail))
 | ((with_reducible show (_ : Nat) ≤ _); (first | assumption | exact Nat.le_of_ble_eq_true rfl | exact size_le (Nat.le_of_ble_eq_true rfl) | omega | (simp; done) | (simp; omega) | fail))
 | ((with_reducible show Own _ _ _ _); (first | walk_at "own" | (walk_at "st"; walk_at "own") | fail))
 | ((with_reducible show SqL _ _ _ _); (first | assumption | exact SqL.of (by walk_at "at") | fail))
 | ((with_reducible show SqT _ _ _ _); (first | assumption | exact hO.psq (by walk_at "mem") | exact SqT.of (by walk_at "at") | fail))
  | ((with_reducible show Cls _ _); exact Txt.cl_Memory T) | ((with_reducible show NoAttr _ _ _); exact Txt.n_Memory_words T) | (with_reducible exact gt_Memory_words) 
 | ((with_reducible show SqL _ _ _ _ ∨ SqT _ _ _ _); (first | exact Or.inl (SqL.of (by walk_at "at")) | exact Or.inr (SqT.of (by walk_at "at")) | fail))
 | ((with_reducible show Dp _ _ _ _); (first | assumption | exact hO.dpL (by walk_at "mem") | exact .lst (SqL.of (by walk_at "at")) (hO.all (by walk_at "dv")) | exact hO.one (by walk_at "dv") | fail))
 | ((with_reducible show TruV _ _ _ _); (first | exact Or.inl ⟨_, SqL.of (by walk_at "at"), rfl⟩ | exact Or.inr (Or.inr ⟨_, by walk_at "at", rfl⟩) | exact Or.inr (Or.inl ⟨_, SqT.of (by walk_at "at"), rfl⟩) | fail))
 | ((with_reducible show RgOk _ _); exact RgOk.of_le (by omega) (by omega) (by omega) (by omega))
 | rfl | (with_reducible assumption) | apply And.intro | apply Exists.intro | refine iteT ?_ | refine iteF ?_
 | (walk_at "st"; (try walk_at "fl"))
 | ((with_reducible show ∀ _ : Addr, _ = none → _); (fail_if_success (with_reducible show ∀ _ : Addr, _ = none → ∃ _ : Nat → Nat → Hp → Prop, _)); intro p fp; walk_at "st")
 | (refine Or.inl ⟨SqL.of (by walk_at "at"), ?_⟩) | (refine Or.inr ⟨SqT.of (by walk_at "at"), ?_⟩) | exact Or.inl ⟨_, by walk_at "at", rfl⟩ | exact Or.inl ⟨rfl, _, SqL.of (by walk_at "at")⟩ | exact tyl_of (by walk_at "at") | exact Or.inl (SqL.of (by walk_at "at")) | exact Or.inr (SqT.of (by walk_at "at")) | exact Or.inl (by walk_at "at") | exact size_le (Nat.le_of_ble_eq_true rfl) | exact Nat.le_of_ble_eq_true rfl | exact True.intro | exact Or.inl rfl | exact Or.inr rfl | (show (_ : Prop); assumption) | (show (_ : Prop); omega) | (show (_ : Prop); dsimp only; omega) | exact mulw64 (by omega) (by omega) | exact mulw64 (by (try dsimp only); omega) (by (try dsimp only); omega) | fail))
local macro_rules | `(tactic| walk_at "go") => `(tactic| repeat walk_at "g1")

section
variable {P : Program} {w : World} {K : PySem.W.Frag} {mg : Str → Option Value} {base : Heap}
/-- rows at places, each place once -/
structure Rk (rs : List Pr) (n : Nat) : Prop where
  nd : (rs.map Prod.fst).Nodup
  bd : ∀ r ∈ rs, (0 ≤ r.1 ∧ r.1 < 960) ∧ (0 ≤ r.2 ∧ r.2 < 65536)
  le : rs.length ≤ n
theorem Rk.snoc {rs : List Pr} {n : Nat} (h : Rk rs n) {p w : Int} (hp : 0 ≤ p ∧ p < 960) (hw : 0 ≤ w ∧ w < 65536) (ni : ∀ r ∈ rs, r.1 ≠ p) : Rk (rs ++ [(p, w)]) (n + 1) := by
  refine ⟨?_, fun r hr => ?_, by simp; have := h.le; omega⟩
  · rw [List.map_append, List.nodup_append]
    refine ⟨h.nd, by simp, fun x hx y hy => ?_⟩
    simp at hy
    subst hy
    obtain ⟨r, hr, rfl⟩ := List.mem_map.mp hx
    exact ni r hr
  · rcases List.mem_append.mp hr with hr | hr
    · exact h.bd r hr
    · simp at hr
      subst hr
      exact ⟨hp, hw⟩
theorem Rk.mono {rs : List Pr} {n m : Nat} (h : Rk rs n) (l : n ≤ m) : Rk rs m := ⟨h.nd, h.bd, Nat.le_trans h.le l⟩
def sp_Lrows (K : PySem.W.Frag) : Sp := fun vs H Q _ => ∃ (a : Addr) (r : Int) (R : List (Addr × Ob)) (P : List Pf), vs = [.ref a, .int r] ∧ Own K H (pt a ++ R) P ∧ (0 ≤ r ∧ r < 64) ∧
  ∀ (b : Addr) (rs : List Pr) (H' : Hp) (P' : List Pf), Rk rs 16 → Ps P P' → Own K H' (pt a ++ ((b, .L (rs.map prD)) :: R)) P' → Q (.ref b) H'
theorem ok_Lrows (T : Txt w K mg) : FnOk P w K mg base CX0 3 T.f_Lrows T.fd_Lrows ["_law_pot_here", "_law_root"] (sp_Lrows K) := by
  have G_Lpick := ok_Lpick (P := P) (w := w) (base := base) T
  have G_Lentry := ok_Lentry (P := P) (w := w) (base := base) T
  have G_Ldraw := ok_Ldraw (P := P) (w := w) (base := base) T
  refine T.F_Lrows.ok sc_Lrows (fun vs H Q E h => ?_) (fun cdv A outer s H vs Q E hr h => ?_)
  · obtain ⟨a, r, R, P, rfl, hO, hrt, k⟩ := h; rfl
  · obtain ⟨a, r, R, P, rfl, hO, hrt, k⟩ := h
    refine ⟨_, (pss_cons (ps_par (i := 2) (j := 3) rfl sc_Lrows.nd rfl rfl (by decide) rfl rfl (pa_cons (pe_lst pa_nil) (pa_cons (pe_lst pa_nil) pa_nil)) (by rfl))
        (pss_cons (ps_forS PassesOwn.never rfl (pi_range1 rfl T.m_range (pa_cons pe_int pa_nil)) (pg_name (i := 4) sc_Lrows.nd rfl (Or.inl rfl))
          (pss_one (ps_expr (pe_bm PySem.F.plainAttrs_list PySem.F.slot_list_append PySem.F.type_list_append mt_append (pv 3) (pa_cons (pe_call G_Lpick (hr.mono (by decide)) rfl T.g_Lpick T.F_Lpick.kp T.b_Lpick .nil pass0 (pa_cons (pv 0) (pa_cons (pe_lst (pa_cons pe_int (pa_cons pe_int (pa_cons pe_int (pa_cons pe_int (pa_cons pe_int (pa_cons pe_int (pa_cons pe_int (pa_cons (pv 1) pa_nil))))))))) pa_nil))) pa_nil)))))
        (pss_cons (ps_forS PassesOwn.never rfl (pi_range1 rfl T.m_range (pa_cons pe_int pa_nil)) (pg_name (i := 5) sc_Lrows.nd rfl (Or.inl rfl))
          (pss_cons (ps_set (i := 6) sc_Lrows.nd rfl (Or.inr rfl) (pe_op op_add (pe_op op_mulW (pv 1) pe_int) (pv 5)))
          (pss_one (ps_mid (ps_if (pt_cmpR op_lt (pv 6) pe_int (nomark _))
            (pss_one (ps_expr (pe_bm PySem.F.plainAttrs_list PySem.F.slot_list_append PySem.F.type_list_append mt_append (pv 2) (pa_cons (pe_tup (pa_cons (pv 6) (pa_cons (pe_call G_Lentry (hr.mono (by decide)) rfl T.g_Lentry T.F_Lentry.kp T.b_Lentry .nil pass0 (pa_cons (pv 0) (pa_cons (pe_call G_Lpick (hr.mono (by decide)) rfl T.g_Lpick T.F_Lpick.kp T.b_Lpick .nil pass0 (pa_cons (pv 0) (pa_cons (pv 3) pa_nil))) pa_nil))) pa_nil))) pa_nil))))
            pss_nil)))))
        (pss_cons (ps_forS PassesOwn.never rfl (pi_list (pv 3)) (pg_name (i := 7) sc_Lrows.nd rfl (Or.inl rfl))
          (pss_one (ps_forS PassesOwn.never rfl (pi_range1 rfl T.m_range (pa_cons pe_int pa_nil)) (pg_name (i := 5) sc_Lrows.nd rfl (Or.inl rfl))
            (pss_cons (ps_set (i := 6) sc_Lrows.nd rfl (Or.inr rfl) (pe_op op_add (pe_op op_mulW (pv 7) pe_int) (pv 5)))
            (pss_one (ps_mid (ps_if (pt_mid (PW.pt (pw_and (pt_cmpR op_lt (pv 6) pe_int (nomark _)) (pw_and1 (pt_cmpR (op_eqD hr.units) (pe_lc (own := [("_law_where", 8), ("_law_word_here", 9)]) (g := gTup _ 2 (gCons (gName 8) (gCons (gName 9) gNil)))  rfl sc_Lrows.nd (pi_list (pv 2)) (blkOk_by (N := ["_law_pot_here", "_law_root", "_law_rows_here", "_law_tables", "_law_turn", "_law_number", "_law_place", "_law_table", "_law_where", "_law_word_here"]) (sc := defScope s_Lrows) (by decide +kernel)) (fun _ _ _ _ _ => pg_pair (i := 8) (j := 9) rfl sc_Lrows.nd rfl rfl (Or.inl rfl) (Or.inl rfl)) (fun _ _ _ _ _ => pts_one (pt_cmpR op_eq (pv 8) (pv 6) (nomark _))) (fun _ _ _ _ _ => pe_int)) (pe_lst pa_nil) (nomark _))))))
              (pss_one (ps_expr (pe_bm PySem.F.plainAttrs_list PySem.F.slot_list_append PySem.F.type_list_append mt_append (pv 2) (pa_cons (pe_tup (pa_cons (pv 6) (pa_cons (pe_call G_Lentry (hr.mono (by decide)) rfl T.g_Lentry T.F_Lentry.kp T.b_Lentry .nil pass0 (pa_cons (pv 0) (pa_cons (pe_call G_Ldraw (hr.mono (by decide)) rfl T.g_Ldraw T.F_Ldraw.kp T.b_Ldraw .nil pass0 (pa_cons (pv 0) (pa_cons pe_int pa_nil))) pa_nil))) pa_nil))) pa_nil))))
              pss_nil)))))))
        (pss_one (ps_ret (pv 2))))))), ?_⟩
    clear G_Lpick G_Lentry G_Ldraw
    clear hr
    walk_at "go"
    refine ⟨for_range (n := ((3 : Int)).toNat) (fun i σ H' => Stop (∃ (rb tb : Addr) (tv : List Int) (t4 : Option V) (P2 : List Pf), σ = [some (.ref a), some (.int r), some (.ref rb), some (.ref tb), t4, none, none, none, none, none] ∧ tv.length = i ∧ (∀ t ∈ tv, 0 ≤ t ∧ t < 64) ∧ Ps P P2 ∧
      Own K H' (pt a ++ ((tb, .raw (.lst (tv.map V.int))) :: (rb, .L []) :: R)) P2)) ⟨⟨_, _, [], none, P, rfl, rfl, (fun _ h => nomatch h), Ps.refl, ?_⟩⟩ (fun i σ H' hi h => ?_) (fun σ H' h => ?_)⟩
    · walk_at "fin"
    · obtain ⟨rb, tb, tv, t4, P2, rfl, hl, hb, sp2, hO⟩ := h.h
      clear h
      have hi3 : i < 3 := by omega
      have sz : (tv.map V.int).length < sizeLine := size_lt (by simp; omega)
      walk_at "go"
      intro j v H3 hj hO
      obtain ⟨z, rfl, hz⟩ : ∃ z, v = V.int z ∧ 0 ≤ z ∧ z < 64 := by
        rcases j with _ | _ | _ | _ | _ | _ | _ | _ | j <;> simp at hj <;> subst hj <;> exact ⟨_, rfl, by omega, by omega⟩
      walk_at "go"
      refine ⟨⟨rb, tb, tv ++ [z], _, P2, rfl, by simp; omega, fun t ht => ?_, sp2, ?_⟩⟩
      · rcases List.mem_append.mp ht with ht | ht
        · exact hb t ht
        · simp at ht
          subst ht
          exact hz
      · walk_at "fin"
    · obtain ⟨rb, tb, tv, t4, P2, rfl, hl, hb, sp2, hO⟩ := h.h
      clear h
      have hl3 : tv.length = 3 := hl
      clear hl
      have tl0 : 0 < (tv.map V.int).length := by simp; omega
      have tl1 : (tv.map V.int).length ≤ 1000 := by simp; omega
      walk_at "go"
      refine ⟨for_range (n := ((4 : Int)).toNat) (fun i σ H' => Stop (∃ (rs : List Pr) (t5 t6 : Option V) (P3 : List Pf), σ = [some (.ref a), some (.int r), some (.ref rb), some (.ref tb), t4, t5, t6, none, none, none] ∧ Rk rs i ∧ (∀ q ∈ rs, q.1 < r * 16 + i) ∧ Ps P P3 ∧
        Own K H' (pt a ++ ((tb, .raw (.lst (tv.map V.int))) :: (rb, .L (rs.map prD)) :: R)) P3)) ⟨⟨[], none, none, P2, rfl, ⟨List.nodup_nil, (fun _ h => nomatch h), Nat.le_refl _⟩, (fun _ h => nomatch h), sp2, hO⟩⟩ (fun i σ H' hi h => ?_) (fun σ H' h => ?_)⟩
      · clear hO
        obtain ⟨rs, t5, t6, P3, rfl, hR, hq, sp3, hO⟩ := h.h
        clear h
        have hi4 : i < 4 := by omega
        rw [Int.zero_add]
        walk_at "go"
        refine Stop.mk ⟨fun σ' H' => Stop (∃ (rs' : List Pr) (P3 : List Pf), σ' = [some (.ref a), some (.int r), some (.ref rb), some (.ref tb), t4, some (.int i), some (.int (r * 16 + i)), none, none, none] ∧ Rk rs' (i + 1) ∧ (∀ q ∈ rs', q.1 < r * 16 + ((i + 1 : Nat) : Int)) ∧ Ps P P3 ∧ Own K H' (pt a ++ ((tb, .raw (.lst (tv.map V.int))) :: (rb, .L (rs'.map prD)) :: R)) P3), ?_, fun σ' H9 hM => ?_⟩
        · walk_at "go"
          refine iteD (fun h2 => ?_) (fun h2 => ?_)
          · obtain ⟨lv, o1⟩ := hO.openL (a := rb) (ds := rs.map prD) (List.mem_append.mpr (.inr (List.mem_cons_of_mem _ List.mem_cons_self)))
            replace hO := o1 _ (by walk_at "setat")
            have hll := (hO.pdp (vs := lv) (by walk_at "mem")).len
            rw [List.length_map] at hll
            clear o1
            have szl : lv.length < sizeLine := size_lt (by have := hR.le; omega)
            walk_at "go"
            intro j v H3 hj hO
            rw [List.getElem?_map] at hj
            obtain ⟨z, hz, rfl⟩ := Option.map_eq_some_iff.mp hj
            have hz2 := hb z (List.mem_of_getElem? hz)
            walk_at "go"
            intro w H4 hw hO
            walk_at "go"
            refine ⟨⟨rs ++ [(r * 16 + (i : Int), w)], P3, rfl, hR.snoc (by omega) hw (fun q h e => by have := hq q h; omega), fun q h => ?_, sp3, ?_⟩⟩
            · rcases List.mem_append.mp h with h | h
              · have := hq q h; omega
              · simp at h
                subst h
                show r * 16 + (i : Int) < _
                omega
            · simp only [List.map_append, List.map_cons, List.map_nil]
              walk_at "fin"
          · walk_at "go"
            exact ⟨⟨rs, P3, rfl, hR.mono (Nat.le_succ _), (fun q h => by have := hq q h; omega), sp3, hO⟩⟩
        obtain ⟨rs', P4, rfl, hR', hq', sp4, hO⟩ := hM.h
        clear hM
        walk_at "go"
        exact ⟨⟨rs', _, _, P4, rfl, hR', hq', sp4, hO⟩⟩
      · clear hO
        obtain ⟨rs, t5, t6, P3, rfl, hR, hq, sp3, hO⟩ := h.h
        clear h hq
        have hR4 : Rk rs 4 := hR
        clear hR
        walk_at "go"
        refine ⟨for_list (xs := tv.map V.int) (fun i σ H' => Stop (∃ (rs : List Pr) (t5 t6 t7 : Option V) (P3 : List Pf), σ = [some (.ref a), some (.int r), some (.ref rb), some (.ref tb), t4, t5, t6, t7, none, none] ∧ Rk rs (4 + 4 * i) ∧ Ps P P3 ∧ Own K H' (pt a ++ ((tb, .raw (.lst (tv.map V.int))) :: (rb, .L (rs.map prD)) :: R)) P3)) ⟨⟨rs, t5, t6, none, P3, rfl, hR4, sp3, hO⟩⟩ (fun i σ H' hi h => ?_) (fun i v σ H' hv h => ?_) (fun σ H' h => ?_)⟩
        · obtain ⟨rs, t5, t6, t7, P3, rfl, hR, sp3, hO⟩ := h.h
          exact SqL.of (hO.raw (List.mem_append.mpr (.inr List.mem_cons_self)))
        · clear hO hR4
          obtain ⟨rs, t5, t6, t7, P3, rfl, hR, sp3, hO⟩ := h.h
          clear h
          rw [List.getElem?_map] at hv
          obtain ⟨z, hz, rfl⟩ := Option.map_eq_some_iff.mp hv
          have hz2 := hb z (List.mem_of_getElem? hz)
          have hi3 : i < 3 := by have := (List.getElem?_eq_some_iff.mp hz).1; omega
          walk_at "go"
          refine ⟨for_range (n := ((4 : Int)).toNat) (fun j σ H' => Stop (∃ (rs : List Pr) (t5 t6 : Option V) (P3 : List Pf), σ = [some (.ref a), some (.int r), some (.ref rb), some (.ref tb), t4, t5, t6, some (.int z), none, none] ∧ Rk rs (4 + 4 * i + j) ∧ Ps P P3 ∧ Own K H' (pt a ++ ((tb, .raw (.lst (tv.map V.int))) :: (rb, .L (rs.map prD)) :: R)) P3)) ⟨⟨rs, t5, t6, P3, rfl, hR, sp3, hO⟩⟩ (fun j σ H' hj h => ?_) (fun σ H' h => ?_)⟩
          · clear hO hR
            obtain ⟨rs, t5, t6, P3, rfl, hR, sp3, hO⟩ := h.h
            clear h
            have hj4 : j < 4 := by omega
            rw [Int.zero_add]
            walk_at "go"
            refine Stop.mk ⟨fun σ' H' => Stop (∃ (rs' : List Pr) (P4 : List Pf), σ' = [some (.ref a), some (.int r), some (.ref rb), some (.ref tb), t4, some (.int j), some (.int (z * 16 + j)), some (.int z), none, none] ∧ Rk rs' (4 + 4 * i + (j + 1)) ∧ Ps P P4 ∧ Own K H' (pt a ++ ((tb, .raw (.lst (tv.map V.int))) :: (rb, .L (rs'.map prD)) :: R)) P4), ?_, fun σ' H9 hM => ?_⟩
            · walk_at "go"
              refine Stop.mk ⟨fun b H' => Stop ((b = true → z * 16 + (j : Int) < 960 ∧ ∀ q ∈ rs, q.1 ≠ z * 16 + (j : Int)) ∧ Own K H' (pt a ++ ((tb, .raw (.lst (tv.map V.int))) :: (rb, .L (rs.map prD)) :: R)) P3), ?_, fun b H9 hM => ?_⟩
              · walk_at "go"
                refine iteD (fun h2 => ?_) (fun h2 => ?_)
                · obtain ⟨lv, o1⟩ := hO.openL (a := rb) (ds := rs.map prD) (List.mem_append.mpr (.inr (List.mem_cons_of_mem _ List.mem_cons_self)))
                  replace hO := o1 _ (by walk_at "setat")
                  have hll := (hO.pdp (vs := lv) (by walk_at "mem")).len
                  rw [List.length_map] at hll
                  clear o1
                  have szl : lv.length < sizeLine := size_lt (by have := hR.le; omega)
                  walk_at "go"
                  intro D hD
                  refine lc_siftW rs (fun _ => V.int 1) (fun q => decide (q.1 = z * 16 + (j : Int))) (by rw [← hll]; exact walk_list (xs := lv)) hO hD (by have := hR.le; omega) (fun H L' P' s t h => SqL.of (h.raw (s _ (by walk_at "mem")))) (fun jj q x H9 H' P' ys Qn Qy hq hx sp hO kn ky => ?_) (fun H5 P5 sp5 hO => ?_)
                  · obtain ⟨rfl, hx⟩ := hx
                    obtain ⟨t0, rfl, hO⟩ := hO.opn (Dv.get (Dv.of (sp _ List.mem_cons_self)) hx (by rw [List.getElem?_map, hq]; rfl : (rs.map prD)[jj]? = some (prD q)))
                    have ht0 := hO.psq List.mem_cons_self
                    walk_at "go"
                    refine iteD (fun h => ?_) (fun h => ?_)
                    · walk_at "go"
                      exact ky (decide_eq_true (V.int.inj h)) _ _ (by walk_at "ps") hO
                    · exact kn (decide_eq_false (fun e => h (congrArg V.int e))) _ _ (by walk_at "ps") hO
                  · have eW : ((rs.filter fun q => decide (q.1 = z * 16 + (j : Int))).map fun _ => V.int 1) = ((rs.filter fun q => decide (q.1 = z * 16 + (j : Int))).map fun _ => (1 : Int)).map V.int := by rw [List.map_map]; rfl
                    rw [eW] at hO
                    have S1 := sh_ints ((rs.filter fun q => decide (q.1 = z * 16 + (j : Int))).map fun _ => (1 : Int))
                    have S2 : SeqAt.shaped (.list []) = true := by decide
                    replace hO := hO.dv (Dv.of (sp5 _ List.mem_cons_self))
                    walk_at "go"
                    rw [eqv_nilD]
                    refine ⟨⟨fun h => ⟨by omega, fun q hq e => ?_⟩, ?_⟩⟩
                    · have h3 := List.map_eq_nil_iff.mp (List.map_eq_nil_iff.mp (List.isEmpty_iff.mp h))
                      have := (List.mem_filter (p := fun q : Pr => decide (q.1 = z * 16 + (j : Int)))).mpr ⟨hq, decide_eq_true e⟩
                      rw [h3] at this
                      exact nomatch this
                    · refine Own.sub hO ?_ (Ps.skip (fun q hq => sp5 q (List.mem_cons_of_mem _ hq)))
                      walk_at "sbL"
                · exact ⟨⟨(fun h => nomatch h), hO⟩⟩
              obtain ⟨hc, hO⟩ := hM.h
              clear hM
              cases b
              · walk_at "go"
                exact ⟨⟨rs, P3, rfl, hR.mono (by omega), sp3, hO⟩⟩
              · replace hc := hc rfl
                obtain ⟨lv, o1⟩ := hO.openL (a := rb) (ds := rs.map prD) (List.mem_append.mpr (.inr (List.mem_cons_of_mem _ List.mem_cons_self)))
                replace hO := o1 _ (by walk_at "setat")
                have hll := (hO.pdp (vs := lv) (by walk_at "mem")).len
                rw [List.length_map] at hll
                clear o1
                have szl : lv.length < sizeLine := size_lt (by have := hR.le; omega)
                walk_at "go"
                intro f H3 f0 f1 hO
                walk_at "go"
                intro w H4 hw hO
                walk_at "go"
                refine ⟨⟨rs ++ [(z * 16 + (j : Int), w)], P3, rfl, (hR.snoc (by omega) hw hc.2).mono (by omega), sp3, ?_⟩⟩
                simp only [List.map_append, List.map_cons, List.map_nil]
                walk_at "fin"
            obtain ⟨rs', P4, rfl, hR', sp4, hO⟩ := hM.h
            clear hM
            walk_at "go"
            exact ⟨⟨rs', _, _, P4, rfl, hR', sp4, hO⟩⟩
          · obtain ⟨rs, t5, t6, P3, rfl, hR, sp3, hO⟩ := h.h
            clear h
            walk_at "go"
            exact ⟨⟨rs, _, _, _, P3, rfl, hR.mono (by simp; omega), sp3, hO⟩⟩
        · obtain ⟨rs, t5, t6, t7, P3, rfl, hR, sp3, hO⟩ := h.h
          clear h
          walk_at "go"
          refine k rb rs _ P3 (hR.mono (by simp; omega)) sp3 ?_
          walk_at "fin"
end
end K36

set_option Elab.async false
set_option linter.all false
set_option maxRecDepth 100000
set_option maxHeartbeats 8000000

namespace K36
open PySem PySem.Spec PyProof.Rows L2 Hx 
local macro_rules | `(tactic| walk_at "sm") => `(tactic| repeat' (first | assumption | apply Hx.Same.upd | exact L2.Same.refl _ | apply same_trans'))
local macro_rules | `(tactic| walk_at "hp") => `(tactic| repeat' (first | assumption | exact upd_same | apply old_upd | apply same_at))
local macro_rules | `(tactic| walk_at "rd") => `(tactic| repeat' (first | rfl | apply Exists.intro | apply And.intro | refine iteT ?_ | refine iteF ?_ | exact upd_same | exact SqL.of (by assumption) | exact SqL.of upd_same | exact SqT.of upd_same | exact SqT.of (by assumption) | ((with_reducible show (_ : Int) < _); omega) | ((with_reducible show (_ : Int) ≤ _); omega) | (show (_ : Prop); assumption) | exact Or.inl ⟨_, by assumption, rfl⟩ | exact Or.inl ⟨rfl, _, SqL.of (by assumption)⟩ | exact Or.inl ⟨rfl, _, SqL.of upd_same⟩ | apply old_upd | apply Hx.SqL.new | apply tyl_new | apply Pot.new | exact same_at (by assumption) (by assumption) | exact Or.inl (SqL.of (by assumption)) | exact Or.inl (by assumption) | exact Or.inl (SqL.of upd_same) | exact size_le (Nat.le_of_ble_eq_true rfl) | exact Nat.le_of_ble_eq_true rfl | exact True.intro | exact Or.inl rfl | exact Or.inr rfl | (show (_ : Prop); omega) | (show (_ : Prop); dsimp only; omega) | exact mulw64 (by omega) (by omega) | exact mulw64 (by (try dsimp only); omega) (by (try dsimp only); omega)))
set_option hygiene false in
local macro_rules | `(tactic| walk_at "fl") => `(tactic| simp only [pu_Memory_words, pi_Memory_words] at hO)
local macro_rules | `(tactic| walk_at "mem") => `(tactic| ((repeat (first | exact List.Mem.head _ | apply List.Mem.tail | fail)); done))
local macro_rules | `(tactic| walk_at "setat") => `(tactic| ((repeat (first | (with_reducible exact At.head) | (with_reducible apply At.tail) | (with_reducible apply At.app) | fail)); done))
set_option hygiene false in
local macro_rules | `(tactic| walk_at "dv") => `(tactic| ((repeat' (first | exact Dv.nil | exact Dv.of (by walk_at "mem") | exact Dv.ints _ | exact Dv1.of (by walk_at "mem") | exact Dv1.int _ | exact Dv1.non | exact Dv1.bl _ | exact Dv1.str _ | (with_reducible apply Dv.cons) | refine Dv1.tup (by walk_at "mem") ?_ | refine Dv1.lst (by walk_at "mem") ?_ | (with_reducible apply Dv.app) | fail)); done))
local macro_rules | `(tactic| walk_at "ft") => `(tactic| (first | (with_reducible exact Ft.refl) | ((with_reducible apply Ft.toL); focus walk_at "dv") | ((with_reducible apply Ft.toS); focus assumption) | (with_reducible apply Ft.lst) | (with_reducible apply Ft.Le) | (with_reducible apply Ft.dK) | (with_reducible apply Ft.De) | (with_reducible apply Ft.ins) | (with_reducible apply Ft.toL) | (with_reducible apply Ft.toS) | (with_reducible apply Ft.toD) | fail))
local macro_rules | `(tactic| walk_at "sbL") => `(tactic| repeat' (first | (with_reducible exact Sb.refl _) | exact Sb.nil | (with_reducible apply Sb.cons) | (with_reducible apply Sb.app) | (with_reducible exact Pk.one) | (with_reducible exact Pk.here) | (with_reducible exact Pk.all) | (with_reducible apply Pk.skip1) | (with_reducible apply Pk.skipB) | (with_reducible apply Sb.skip) | (with_reducible apply Sb.skipB) | ((with_reducible show Ft _ _ _ _); walk_at "ft") | ((with_reducible show (_ : List _) = _); (first | rfl | (simp [List.map_set, List.map_append]; done) | fail)) | fail))
local macro_rules | `(tactic| walk_at "sb") => `(tactic| ((walk_at "sbL"); done))
local macro_rules | `(tactic| walk_at "ps") => `(tactic| ((repeat' (first | (with_reducible exact Ps.refl) | exact Ps.nil | (with_reducible apply Ps.cons) | exact List.Mem.head _ | apply List.Mem.tail | (with_reducible apply Ps.skip) | fail)); done))
set_option hygiene false in
local macro_rules | `(tactic| walk_at "at") => `(tactic| first | assumption | exact Own.raw hO (by walk_at "mem") | exact Own.ptup hO (by walk_at "mem") | exact Own.plst hO (by walk_at "mem") | fail)
set_option hygiene false in
local macro_rules | `(tactic| walk_at "st") => `(tactic| (rw [upd_mkO hO]; generalize e : updX _ _ _ = H1; (first | ((apply Own.cset hO e); (focus walk_at "setat"); (try clear hO e); intro hO) | ((apply Own.cnewT hO e); (focus assumption); (try clear hO e); intro hO) | ((apply Own.cnew hO e); (focus assumption); (try clear hO e); intro hO) | fail)))
set_option hygiene false in
local macro_rules | `(tactic| walk_at "mk") => `(tactic| (intro p1 p2 f1 f2 f3; rw [upd_mkO hO]; generalize e : upd (updX _ _ _) _ _ = H1; apply Own.cmake hO f1 f2 f3 e; (try clear hO e); intro hO))
set_option hygiene false in
local macro_rules | `(tactic| walk_at "own") => `(tactic| (first | ((apply Own.sub hO); (focus walk_at "sb"); (focus walk_at "ps")) | ((apply Own.sub hF); (focus walk_at "sb"); (focus walk_at "ps")) | fail))
set_option hygiene false in
local macro_rules | `(tactic| walk_at "fin") => `(tactic| (refine Own.sub hO ?_ (by walk_at "ps"); walk_at "sbL"))
set_option hygiene false in
local macro_rules | `(tactic| walk_at "g1") => `(tactic| (first
 | ((with_reducible show (_ : Option HO) = _); walk_at "at")
 | ((with_reducible show (_ : Int) < _); omega) | ((with_reducible show (_ : Int) ≤ _); omega)
 | ((with_reducible show (_ : Nat) < _); (first | assumption | exact Nat.le_of_ble_eq_true rfl | exact size_lt (Nat.le_of_ble_eq_true rfl) | omega | (simp; done) | (simp; omega) | fail))
 | ((with_reducible show (_ : Nat) ≤ _); (first | assumption | exact Nat.le_of_ble_eq_true rfl | exact size_le (Nat.le_of_ble_eq_true rfl) | omega | (simp; done) | (simp; omega) | fail))
 | ((with_reducible show Own _ _ _ _); (first | walk_at "own" | (walk_at "st"; walk_at "own") | fail))
 | ((with_reducible show SqL _ _ _ _); (first | assumption | exact SqL.of (by walk_at "at") | fail))
 | ((with_reducible show SqT _ _ _ _); (first | assumption | exact hO.psq (by walk_at "mem") | exact SqT.of (by walk_at "at") | fail))
  | ((with_reducible show Cls _ _); exact Txt.cl_Memory T) | ((with_reducible show NoAttr _ _ _); exact Txt.n_Memory_words T) | (with_reducible exact gt_Memory_words) 
 | ((with_reducible show SqL _ _ _ _ ∨ SqT _ _ _ _); (first | exact Or.inl (SqL.of (by walk_at "at")) | exact Or.inr (SqT.of (by walk_at "at")) | fail))
 | ((with_reducible show Dp _ _ _ _); (first | assumption | exact hO.dpL (by walk_at "mem") | exact .lst (SqL.of (by walk_at "at")) (hO.all (by walk_at "dv")) | exact hO.one (by walk_at "dv") | fail))
 | ((with_reducible show TruV _ _ _ _); (first | exact Or.inl ⟨_, SqL.of (by walk_at "at"), rfl⟩ | exact Or.inr (Or.inr ⟨_, by walk_at "at", rfl⟩) | exact Or.inr (Or.inl ⟨_, SqT.of (by walk_at "at"), rfl⟩) | fail))
 | ((with_reducible show RgOk _ _); exact RgOk.of_le (by omega) (by omega) (by omega) (by omega))
 | rfl | (with_reducible assumption) | apply And.intro | apply Exists.intro | refine iteT ?_ | refine iteF ?_
 | (walk_at "st"; (try walk_at "fl"))
 | ((with_reducible show ∀ _ : Addr, _ = none → _); (fail_if_success (with_reducible show ∀ _ : Addr, _ = none → ∃ _ : Nat → Nat → Hp → Prop, _)); intro p fp; walk_at "st")
 | (refine Or.inl ⟨SqL.of (by walk_at "at"), ?_⟩) | (refine Or.inr ⟨SqT.of (by walk_at "at"), ?_⟩) | exact Or.inl ⟨_, by walk_at "at", rfl⟩ | exact Or.inl ⟨rfl, _, SqL.of (by walk_at "at")⟩ | exact tyl_of (by walk_at "at") | exact Or.inl (SqL.of (by walk_at "at")) | exact Or.inr (SqT.of (by walk_at "at")) | exact Or.inl (by walk_at "at") | exact size_le (Nat.le_of_ble_eq_true rfl) | exact Nat.le_of_ble_eq_true rfl | exact True.intro | exact Or.inl rfl | exact Or.inr rfl | (show (_ : Prop); assumption) | (show (_ : Prop); omega) | (show (_ : Prop); dsimp only; omega) | exact mulw64 (by omega) (by omega) | exact mulw64 (by (try dsimp only); omega) (by (try dsimp only); omega) | fail))
local macro_rules | `(tactic| walk_at "go") => `(tactic| repeat walk_at "g1")

section
variable {P : Program} {w : World} {K : PySem.W.Frag} {mg : Str → Option Value} {base : Heap}
def plD : Option Int → PyData
  | none => .none
  | some p => .int p
def rsD (r : Rs) : PyData := .tuple [plD r.place, .int r.cause, .list (r.leans.map PyData.int)]
theorem rs_dp {K : PySem.W.Frag} {H : Hp} {t ll : Addr} {r : Rs} (h : H t = some (.tup [plV r.place, .int r.cause, .ref ll])) (k : H ll = some (.lst (r.leans.map V.int))) : Dp K H (.ref t) (rsD r) := by
  refine .tup (SqT.of h) (.cons ?_ (.cons (.int _) (.cons (.lst (SqL.of k) (dp_ints _)) .nil)))
  cases r.place with
  | none => exact .non
  | some p => exact .int p
theorem rs_sh (r : Rs) : SeqAt.shaped (rsD r) = true := flat_sh (n := 2) (flat_tup (n := 1) fun d hd => by
  simp only [List.mem_cons, List.not_mem_nil, or_false] at hd
  rcases hd with rfl | rfl | rfl
  · cases r.place with
    | none => exact ⟨by simp [plD, PyData.canLay0], by simp [plD, PyData.depth]⟩
    | some p => exact flat_int 1 p
  · exact flat_int 1 _
  · exact flat_list (n := 0) fun d hd => by
      obtain ⟨z, _, rfl⟩ := List.mem_map.mp hd
      exact flat_int 0 z)
def sp_Lstr (K : PySem.W.Frag) : Sp := fun vs H Q _ => ∃ (a : Addr) (R : List (Addr × Ob)) (P : List Pf), vs = [.ref a] ∧ Own K H (pt a ++ R) P ∧ ∀ H', Q (.bl true) H'
theorem ok_Lstraight_right (T : Txt w K mg) : FnOk P w K mg base CX0 6 T.f_Lstraight_right T.fd_Lstraight_right ["_law_pot_here"] (sp_Lstr K) := by
  have G_Lpick := ok_Lpick (P := P) (w := w) (base := base) T
  have G_Ldraw := ok_Ldraw (P := P) (w := w) (base := base) T
  have G_straight := ok_straight (P := P) (w := w) (base := base) T
  refine T.F_Lstraight_right.ok sc_Lstraight_right (fun vs H Q E h => ?_) (fun cdv A outer s H vs Q E hr h => ?_)
  · obtain ⟨a, R, P, rfl, hO, k⟩ := h; rfl
  · obtain ⟨a, R, P, rfl, hO, k⟩ := h
    refine ⟨_, (pss_cons (ps_set (i := 1) sc_Lstraight_right.nd rfl (Or.inl rfl) (pe_call G_Lpick (hr.mono (by decide)) rfl T.g_Lpick T.F_Lpick.kp T.b_Lpick .nil pass0 (pa_cons (pv 0) (pa_cons (pe_lst (pa_cons pe_int (pa_cons pe_int (pa_cons pe_int (pa_cons pe_int (pa_cons pe_int (pa_cons pe_int (pa_cons (pe_call G_Ldraw (hr.mono (by decide)) rfl T.g_Ldraw T.F_Ldraw.kp T.b_Ldraw .nil pass0 (pa_cons (pv 0) (pa_cons pe_int pa_nil))) pa_nil)))))))) pa_nil))))
        (pss_cons (ps_forS PassesOwn.never rfl (pi_list (pe_lst (pa_cons pe_str (pa_cons pe_str (pa_cons pe_str pa_nil))))) (pg_name (i := 2) sc_Lstraight_right.nd rfl (Or.inl rfl))
          (pss_cons (ps_set (i := 3) sc_Lstraight_right.nd rfl (Or.inl rfl) (pe_cmpR op_lt (pv 1) (pe_ifExp (pt_cmpR op_eq (pv 2) pe_str (nomark _)) pe_int pe_int) (nomark _)))
          (pss_cons (ps_set (i := 4) sc_Lstraight_right.nd rfl (Or.inl rfl) (pe_ifExp (pt_val (pv 3)) (pe_tup (pa_cons (pv 1) (pa_cons pe_int (pa_cons (pe_lst pa_nil) pa_nil)))) (pe_tup (pa_cons pe_non (pa_cons pe_int (pa_cons (pe_lst pa_nil) pa_nil))))))
          (pss_one (ps_if (pt_cmpR (op_neS hr.units) (pe_call G_straight (hr.mono (by decide)) rfl T.g_straight T.F_straight.kp T.b_straight .nil pass0 (pa_cons (pv 1) (pa_cons (pv 2) pa_nil))) (pv 4) (nomark _))
            (pss_one (ps_ret pe_bl))
            pss_nil)))))
        (pss_one (ps_ret pe_bl)))), ?_⟩
    clear G_Lpick G_Ldraw G_straight
    clear hr
    walk_at "go"
    intro d H1 d0 d1 hO
    walk_at "go"
    intro j v H2 hj hO
    obtain ⟨ad, rfl, had⟩ : ∃ z, v = V.int z ∧ 0 ≤ z ∧ z < 4096 := by
      rcases j with _ | _ | _ | _ | _ | _ | _ | j <;> simp at hj <;> subst hj <;> exact ⟨_, rfl, by omega, by omega⟩
    walk_at "go"
    generalize p = lp at *
    refine ⟨for_list (xs := [V.str "fetch", V.str "load", V.str "store"]) (fun i σ H' => Stop (∃ (t2 t3 t4 : Option V) (R' : List (Addr × Ob)) (P2 : List Pf), σ = [some (.ref a), some (.int ad), t2, t3, t4] ∧ Own K H' ((lp, .raw (.lst [V.str "fetch", V.str "load", V.str "store"])) :: R') P2)) ⟨⟨_, _, _, _, _, rfl, hO⟩⟩ (fun i σ H' hi h => ?_) (fun i v σ H' hv h => ?_) (fun σ H' h => ?_)⟩
    · obtain ⟨t2, t3, t4, R', P2, rfl, hO⟩ := h.h
      exact SqL.of (hO.raw List.mem_cons_self)
    · obtain ⟨t2, t3, t4, R', P2, rfl, hO⟩ := h.h
      clear h
      obtain ⟨rfl, hi⟩ : v = V.str (wy i) ∧ i < 3 := by
        rcases i with _ | _ | _ | i <;> simp at hv <;> subst hv <;> exact ⟨rfl, by decide⟩
      have wf : (V.str (wy i) = V.str "fetch") ↔ i = 0 := ⟨wy0 hi, fun e => by rw [e]; rfl⟩
      walk_at "go"
      refine iteD (fun h2 => ?_) (fun h2 => ?_)
      · have i0 := wf.mp h2
        walk_at "go"
        refine iteD (fun h3 => ?_) (fun h3 => ?_)
        · walk_at "go"
          intro t5 ll H3 s1 e1 e2
          replace hO := hO.same s1
          have est : st ad i = (some ad, 0) := if_pos (by omega)
          rw [est] at e1
          have D1 : Dp K H3 (.ref t5) (rsD ⟨some ad, 0, []⟩) := rs_dp (r := ⟨some ad, 0, []⟩) e1 e2
          have D2 := rs_dp (K := K) (r := ⟨some ad, 0, []⟩) (hO.ptup List.mem_cons_self) (hO.raw List.mem_cons_self)
          have S1 := rs_sh ⟨some ad, 0, []⟩
          walk_at "go"
          exact ⟨⟨_, _, _, _, _, rfl, hO.sub (Sb.skip (Sb.refl _)) Ps.refl⟩⟩
        · walk_at "go"
          intro t5 ll H3 s1 e1 e2
          replace hO := hO.same s1
          have est : st ad i = (none, 7) := if_neg (by omega)
          rw [est] at e1
          have D1 : Dp K H3 (.ref t5) (rsD ⟨none, 7, []⟩) := rs_dp (r := ⟨none, 7, []⟩) e1 e2
          have D2 := rs_dp (K := K) (r := ⟨none, 7, []⟩) (hO.ptup List.mem_cons_self) (hO.raw List.mem_cons_self)
          have S1 := rs_sh ⟨none, 7, []⟩
          walk_at "go"
          exact ⟨⟨_, _, _, _, _, rfl, hO.sub (Sb.skip (Sb.refl _)) Ps.refl⟩⟩
      · have i0 : ¬ i = 0 := fun z => h2 (wf.mpr z)
        walk_at "go"
        refine iteD (fun h3 => ?_) (fun h3 => ?_)
        · walk_at "go"
          intro t5 ll H3 s1 e1 e2
          replace hO := hO.same s1
          have est : st ad i = (some ad, 0) := if_pos (by omega)
          rw [est] at e1
          have D1 : Dp K H3 (.ref t5) (rsD ⟨some ad, 0, []⟩) := rs_dp (r := ⟨some ad, 0, []⟩) e1 e2
          have D2 := rs_dp (K := K) (r := ⟨some ad, 0, []⟩) (hO.ptup List.mem_cons_self) (hO.raw List.mem_cons_self)
          have S1 := rs_sh ⟨some ad, 0, []⟩
          walk_at "go"
          exact ⟨⟨_, _, _, _, _, rfl, hO.sub (Sb.skip (Sb.refl _)) Ps.refl⟩⟩
        · walk_at "go"
          intro t5 ll H3 s1 e1 e2
          replace hO := hO.same s1
          have est : st ad i = (none, 7) := if_neg (by omega)
          rw [est] at e1
          have D1 : Dp K H3 (.ref t5) (rsD ⟨none, 7, []⟩) := rs_dp (r := ⟨none, 7, []⟩) e1 e2
          have D2 := rs_dp (K := K) (r := ⟨none, 7, []⟩) (hO.ptup List.mem_cons_self) (hO.raw List.mem_cons_self)
          have S1 := rs_sh ⟨none, 7, []⟩
          walk_at "go"
          exact ⟨⟨_, _, _, _, _, rfl, hO.sub (Sb.skip (Sb.refl _)) Ps.refl⟩⟩
    · exact k _
end
end K36

set_option Elab.async false
set_option linter.all false
set_option maxRecDepth 100000
set_option maxHeartbeats 8000000

namespace K36
open PySem PySem.Spec PyProof.Rows L2 Hx 
local macro_rules | `(tactic| walk_at "sm") => `(tactic| repeat' (first | assumption | apply Hx.Same.upd | exact L2.Same.refl _ | apply same_trans'))
local macro_rules | `(tactic| walk_at "hp") => `(tactic| repeat' (first | assumption | exact upd_same | apply old_upd | apply same_at))
local macro_rules | `(tactic| walk_at "rd") => `(tactic| repeat' (first | rfl | apply Exists.intro | apply And.intro | refine iteT ?_ | refine iteF ?_ | exact upd_same | exact SqL.of (by assumption) | exact SqL.of upd_same | exact SqT.of upd_same | exact SqT.of (by assumption) | ((with_reducible show (_ : Int) < _); omega) | ((with_reducible show (_ : Int) ≤ _); omega) | (show (_ : Prop); assumption) | exact Or.inl ⟨_, by assumption, rfl⟩ | exact Or.inl ⟨rfl, _, SqL.of (by assumption)⟩ | exact Or.inl ⟨rfl, _, SqL.of upd_same⟩ | apply old_upd | apply Hx.SqL.new | apply tyl_new | apply Pot.new | exact same_at (by assumption) (by assumption) | exact Or.inl (SqL.of (by assumption)) | exact Or.inl (by assumption) | exact Or.inl (SqL.of upd_same) | exact size_le (Nat.le_of_ble_eq_true rfl) | exact Nat.le_of_ble_eq_true rfl | exact True.intro | exact Or.inl rfl | exact Or.inr rfl | (show (_ : Prop); omega) | (show (_ : Prop); dsimp only; omega) | exact mulw64 (by omega) (by omega) | exact mulw64 (by (try dsimp only); omega) (by (try dsimp only); omega)))
set_option hygiene false in
local macro_rules | `(tactic| walk_at "fl") => `(tactic| simp only [pu_Memory_words, pi_Memory_words] at hO)
local macro_rules | `(tactic| walk_at "mem") => `(tactic| ((repeat (first | exact List.Mem.head _ | apply List.Mem.tail | fail)); done))
local macro_rules | `(tactic| walk_at "setat") => `(tactic| ((repeat (first | (with_reducible exact At.head) | (with_reducible apply At.tail) | (with_reducible apply At.app) | fail)); done))
set_option hygiene false in
local macro_rules | `(tactic| walk_at "dv") => `(tactic| ((repeat' (first | exact Dv.nil | exact Dv.of (by walk_at "mem") | exact Dv.ints _ | exact Dv1.of (by walk_at "mem") | exact Dv1.int _ | exact Dv1.non | exact Dv1.bl _ | exact Dv1.str _ | (with_reducible apply Dv.cons) | refine Dv1.tup (by walk_at "mem") ?_ | refine Dv1.lst (by walk_at "mem") ?_ | (with_reducible apply Dv.app) | fail)); done))
local macro_rules | `(tactic| walk_at "ft") => `(tactic| (first | (with_reducible exact Ft.refl) | ((with_reducible apply Ft.toL); focus walk_at "dv") | ((with_reducible apply Ft.toS); focus assumption) | (with_reducible apply Ft.lst) | (with_reducible apply Ft.Le) | (with_reducible apply Ft.dK) | (with_reducible apply Ft.De) | (with_reducible apply Ft.ins) | (with_reducible apply Ft.toL) | (with_reducible apply Ft.toS) | (with_reducible apply Ft.toD) | fail))
local macro_rules | `(tactic| walk_at "sbL") => `(tactic| repeat' (first | (with_reducible exact Sb.refl _) | exact Sb.nil | (with_reducible apply Sb.cons) | (with_reducible apply Sb.app) | (with_reducible exact Pk.one) | (with_reducible exact Pk.here) | (with_reducible exact Pk.all) | (with_reducible apply Pk.skip1) | (with_reducible apply Pk.skipB) | (with_reducible apply Sb.skip) | (with_reducible apply Sb.skipB) | ((with_reducible show Ft _ _ _ _); walk_at "ft") | ((with_reducible show (_ : List _) = _); (first | rfl | (simp [List.map_set, List.map_append]; done) | fail)) | fail))
local macro_rules | `(tactic| walk_at "sb") => `(tactic| ((walk_at "sbL"); done))
local macro_rules | `(tactic| walk_at "ps") => `(tactic| ((repeat' (first | (with_reducible exact Ps.refl) | exact Ps.nil | (with_reducible apply Ps.cons) | exact List.Mem.head _ | apply List.Mem.tail | (with_reducible apply Ps.skip) | fail)); done))
set_option hygiene false in
local macro_rules | `(tactic| walk_at "at") => `(tactic| first | assumption | exact Own.raw hO (by walk_at "mem") | exact Own.ptup hO (by walk_at "mem") | exact Own.plst hO (by walk_at "mem") | fail)
set_option hygiene false in
local macro_rules | `(tactic| walk_at "st") => `(tactic| (rw [upd_mkO hO]; generalize e : updX _ _ _ = H1; (first | ((apply Own.cset hO e); (focus walk_at "setat"); (try clear hO e); intro hO) | ((apply Own.cnewT hO e); (focus assumption); (try clear hO e); intro hO) | ((apply Own.cnew hO e); (focus assumption); (try clear hO e); intro hO) | fail)))
set_option hygiene false in
local macro_rules | `(tactic| walk_at "mk") => `(tactic| (intro p1 p2 f1 f2 f3; rw [upd_mkO hO]; generalize e : upd (updX _ _ _) _ _ = H1; apply Own.cmake hO f1 f2 f3 e; (try clear hO e); intro hO))
set_option hygiene false in
local macro_rules | `(tactic| walk_at "own") => `(tactic| (first | ((apply Own.sub hO); (focus walk_at "sb"); (focus walk_at "ps")) | ((apply Own.sub hF); (focus walk_at "sb"); (focus walk_at "ps")) | fail))
set_option hygiene false in
local macro_rules | `(tactic| walk_at "fin") => `(tactic| (refine Own.sub hO ?_ (by walk_at "ps"); walk_at "sbL"))
set_option hygiene false in
local macro_rules | `(tactic| walk_at "g1") => `(tactic| (first
 | ((with_reducible show (_ : Option HO) = _); walk_at "at")
 | ((with_reducible show (_ : Int) < _); omega) | ((with_reducible show (_ : Int) ≤ _); omega)
 | ((with_reducible show (_ : Nat) < _); (first | assumption | exact Nat.le_of_ble_eq_true rfl | exact size_lt (Nat.le_of_ble_eq_true rfl) | omega | (simp; done) | (simp; omega) | fail))
 | ((with_reducible show (_ : Nat) ≤ _); (first | assumption | exact Nat.le_of_ble_eq_true rfl | exact size_le (Nat.le_of_ble_eq_true rfl) | omega | (simp; done) | (simp; omega) | fail))
 | ((with_reducible show Own _ _ _ _); (first | walk_at "own" | (walk_at "st"; walk_at "own") | fail))
 | ((with_reducible show SqL _ _ _ _); (first | assumption | exact SqL.of (by walk_at "at") | fail))
 | ((with_reducible show SqT _ _ _ _); (first | assumption | exact hO.psq (by walk_at "mem") | exact SqT.of (by walk_at "at") | fail))
  | ((with_reducible show Cls _ _); exact Txt.cl_Memory T) | ((with_reducible show NoAttr _ _ _); exact Txt.n_Memory_words T) | (with_reducible exact gt_Memory_words) 
 | ((with_reducible show SqL _ _ _ _ ∨ SqT _ _ _ _); (first | exact Or.inl (SqL.of (by walk_at "at")) | exact Or.inr (SqT.of (by walk_at "at")) | fail))
 | ((with_reducible show Dp _ _ _ _); (first | assumption | exact hO.dpL (by walk_at "mem") | exact .lst (SqL.of (by walk_at "at")) (hO.all (by walk_at "dv")) | exact hO.one (by walk_at "dv") | fail))
 | ((with_reducible show TruV _ _ _ _); (first | exact Or.inl ⟨_, SqL.of (by walk_at "at"), rfl⟩ | exact Or.inr (Or.inr ⟨_, by walk_at "at", rfl⟩) | exact Or.inr (Or.inl ⟨_, SqT.of (by walk_at "at"), rfl⟩) | fail))
 | ((with_reducible show RgOk _ _); exact RgOk.of_le (by omega) (by omega) (by omega) (by omega))
 | rfl | (with_reducible assumption) | apply And.intro | apply Exists.intro | refine iteT ?_ | refine iteF ?_
 | (walk_at "st"; (try walk_at "fl"))
 | ((with_reducible show ∀ _ : Addr, _ = none → _); (fail_if_success (with_reducible show ∀ _ : Addr, _ = none → ∃ _ : Nat → Nat → Hp → Prop, _)); intro p fp; walk_at "st")
 | (refine Or.inl ⟨SqL.of (by walk_at "at"), ?_⟩) | (refine Or.inr ⟨SqT.of (by walk_at "at"), ?_⟩) | exact Or.inl ⟨_, by walk_at "at", rfl⟩ | exact Or.inl ⟨rfl, _, SqL.of (by walk_at "at")⟩ | exact tyl_of (by walk_at "at") | exact Or.inl (SqL.of (by walk_at "at")) | exact Or.inr (SqT.of (by walk_at "at")) | exact Or.inl (by walk_at "at") | exact size_le (Nat.le_of_ble_eq_true rfl) | exact Nat.le_of_ble_eq_true rfl | exact True.intro | exact Or.inl rfl | exact Or.inr rfl | (show (_ : Prop); assumption) | (show (_ : Prop); omega) | (show (_ : Prop); dsimp only; omega) | exact mulw64 (by omega) (by omega) | exact mulw64 (by (try dsimp only); omega) (by (try dsimp only); omega) | fail))
local macro_rules | `(tactic| walk_at "go") => `(tactic| repeat walk_at "g1")

section
variable {P : Program} {w : World} {K : PySem.W.Frag} {mg : Str → Option Value} {base : Heap}
theorem tl_congr {g g' : Int → Int} {r a : Int} {i : Nat} {u : Bool} (h : ∀ q ∈ (tl g r a i u).leans, g' q = g q) : tl g' r a i u = tl g r a i u := by
  unfold tl at h ⊢
  by_cases h1 : 960 ≤ r * 16 + a / 256
  · rw [if_pos h1, if_pos h1]
  · rw [if_neg h1] at h ⊢
    rw [if_neg h1]
    by_cases h2 : g (r * 16 + a / 256) < 32768
    · rw [if_pos h2] at h ⊢
      rw [h _ (by simp), if_pos h2]
    · rw [if_neg h2] at h ⊢
      by_cases h3 : 960 ≤ g (r * 16 + a / 256) % 64 * 16 + a / 16 % 16
      · rw [if_pos h3] at h ⊢
        rw [h _ (by simp), if_neg h2, if_pos h3]
      · rw [if_neg h3] at h ⊢
        rw [h (r * 16 + a / 256) (by simp), if_neg h2, if_neg h3, h (g (r * 16 + a / 256) % 64 * 16 + a / 16 % 16) (by simp)]
theorem tl_leans {g : Int → Int} {r a : Int} {i : Nat} {u : Bool} (hr : 0 ≤ r) (ha : 0 ≤ a) : ∀ q ∈ (tl g r a i u).leans, 0 ≤ q ∧ q < 960 := by
  intro q hq
  unfold tl at hq
  by_cases h1 : 960 ≤ r * 16 + a / 256
  · rw [if_pos h1] at hq; exact nomatch hq
  · rw [if_neg h1] at hq
    by_cases h2 : g (r * 16 + a / 256) < 32768
    · rw [if_pos h2] at hq
      simp at hq; omega
    · rw [if_neg h2] at hq
      by_cases h3 : 960 ≤ g (r * 16 + a / 256) % 64 * 16 + a / 16 % 16
      · rw [if_pos h3] at hq
        simp at hq; omega
      · rw [if_neg h3] at hq
        simp at hq; omega
theorem sh_bl (b : Bool) : Hx.Sh 0 20 (.bool b) := ⟨by rw [PyData.showable], by rw [PyData.hasDict], by simp [PyData.depth], by cases b <;> (rw [PyData.shown]; decide)⟩
abbrev ptD (z : Int) : PyData := .tuple [.bool (decide (32768 ≤ z)), .int (z / 8192 % 4), .int (z % 64)]
theorem pt_show {z : Int} (h : 0 ≤ z ∧ z < 65536) : Hx.Sh 1 69 (ptD z) := sh_tup (k := 0) (b := 20) 3 (fun d hd => by
  simp only [List.mem_cons, List.not_mem_nil, or_false] at hd
  rcases hd with rfl | rfl | rfl
  · exact sh_bl _
  · exact sh_num ⟨by omega, Int.lt_trans (show z / 8192 % 4 < 65536 by omega) (by decide)⟩
  · exact sh_num ⟨by omega, Int.lt_trans (show z % 64 < 65536 by omega) (by decide)⟩) (Nat.le_refl _)
def secD (q : Option Int × Int) : PyData := .tuple [plD q.1, .int q.2]
theorem sec_dp {K : PySem.W.Frag} {H : Hp} {t : Addr} {q : Option Int × Int} (h : H t = some (.tup [plV q.1, .int q.2])) : Dp K H (.ref t) (secD q) := by
  refine .tup (SqT.of h) (.cons ?_ (.cons (.int _) .nil))
  cases q.1 with
  | none => exact .non
  | some p => exact .int p
theorem sec_sh (q : Option Int × Int) : SeqAt.shaped (secD q) = true := flat_sh (n := 1) (flat_tup (n := 0) fun d hd => by
  simp only [List.mem_cons, List.not_mem_nil, or_false] at hd
  rcases hd with rfl | rfl
  · cases q.1 with
    | none => exact ⟨by simp [plD, PyData.canLay0], by simp [plD, PyData.depth]⟩
    | some p => exact flat_int 0 p
  · exact flat_int 0 _)
def MO (C x dx l rb : Addr) (ws : List Int) (rs : List Pr) : List (Addr × Ob) := [(x, .raw (.ins C dx (F1 l))), (l, .raw (.lst (ws.map V.int))), (rb, .L (rs.map prD))]
def sp_Lone (K : PySem.W.Frag) (C : Addr) : Sp := fun vs H Q _ => ∃ (a x dx l rb : Addr) (ws : List Int) (rs : List Pr) (r : Int) (R : List (Addr × Ob)) (P : List Pf), vs = [.ref a, .ref x, .ref rb, .int r] ∧
  Own K H (pt a ++ (MO C x dx l rb ws rs ++ R)) P ∧ ws.length = 960 ∧ (∀ z ∈ ws, 0 ≤ z ∧ z < 65536) ∧ Rk rs 16 ∧ (∀ q, 0 ≤ q → q < 960 → lk rs q = G ws q) ∧ (0 ≤ r ∧ r < 64) ∧
  ∀ (H' : Hp), Own K H' (pt a ++ (MO C x dx l rb ws rs ++ R)) P → Q (.bl true) H'
theorem ok_Lone_right (T : Txt w K mg) : FnG P w K mg base 11 T.f_Lone_right T.fd_Lone_right ["_law_pot_here", "_law_memory", "_law_rows_here", "_law_root"] (sp_Lone K T.C_Memory) := by
  have G_Ldraw := ok_Ldraw (P := P) (w := w) (base := base) T
  have G_Lpick := ok_Lpick (P := P) (w := w) (base := base) T
  have G_Ltold := ok_Ltold (P := P) (w := w) (base := base) T
  have G_translated := ok_translated (P := P) (w := w) (base := base) T
  have G_Lentry := ok_Lentry (P := P) (w := w) (base := base) T
  have G_by_entry := ok_by_entry (P := P) (w := w) (base := base) T
  have G_Lsecond := ok_Lsecond (P := P) (w := w) (base := base) T
  have G_entry_parts := ok_entry_parts (P := P) (w := w) (base := base) T
  have G_page_entry := ok_page_entry (P := P) (w := w) (base := base) T
  refine fnG T.F_Lone_right sc_Lone_right (fun vs H Q E h => ?_) (fun cdv A outer s H vs Q E hr hg h => ?_)
  · obtain ⟨a, x, dx, l, rb, ws, rs, r, R, P, rfl, hO, hwl, hwb, hR, heq, hrt, k⟩ := h; rfl
  · obtain ⟨a, x, dx, l, rb, ws, rs, r, R, P, rfl, hO, hwl, hwb, hR, heq, hrt, k⟩ := h
    refine ⟨_, (pss_cons (ps_set (i := 4) sc_Lone_right.nd rfl (Or.inl rfl) (pe_op op_add (pe_op op_add (pe_op op_mulW (pe_call G_Ldraw (hr.mono (by decide)) rfl T.g_Ldraw T.F_Ldraw.kp T.b_Ldraw .nil pass0 (pa_cons (pv 0) (pa_cons pe_int pa_nil))) pe_int) (pe_op op_mulW (pe_call G_Ldraw (hr.mono (by decide)) rfl T.g_Ldraw T.F_Ldraw.kp T.b_Ldraw .nil pass0 (pa_cons (pv 0) (pa_cons pe_int pa_nil))) pe_int)) (pe_call G_Ldraw (hr.mono (by decide)) rfl T.g_Ldraw T.F_Ldraw.kp T.b_Ldraw .nil pass0 (pa_cons (pv 0) (pa_cons pe_int pa_nil)))))
        (pss_cons (ps_set (i := 5) sc_Lone_right.nd rfl (Or.inl rfl) (pe_call G_Lpick (hr.mono (by decide)) rfl T.g_Lpick T.F_Lpick.kp T.b_Lpick .nil pass0 (pa_cons (pv 0) (pa_cons (pe_lst (pa_cons pe_str (pa_cons pe_str (pa_cons pe_str pa_nil)))) pa_nil))))
        (pss_cons (ps_set (i := 6) sc_Lone_right.nd rfl (Or.inl rfl) (pe_cmpR op_eq (pe_call G_Ldraw (hr.mono (by decide)) rfl T.g_Ldraw T.F_Ldraw.kp T.b_Ldraw .nil pass0 (pa_cons (pv 0) (pa_cons pe_int pa_nil))) pe_int (nomark _)))
        (pss_cons (ps_set (i := 7) sc_Lone_right.nd rfl (Or.inl rfl) (pe_call G_Ltold (hr.mono (by decide)) rfl T.g_Ltold T.F_Ltold.kp T.b_Ltold .nil pass0 (pa_cons (pv 2) (pa_cons (pv 3) (pa_cons (pv 4) (pa_cons (pv 5) (pa_cons (pv 6) pa_nil)))))))
        (pss_cons (ps_if (pt_cmpR (op_neS hr.units) (pe_call G_translated (hr.mono (by decide)) rfl T.g_translated T.F_translated.kp T.b_translated .nil pass0 (pa_cons (pv 1) (pa_cons (pv 3) (pa_cons (pv 4) (pa_cons (pv 5) (pa_cons (pv 6) pa_nil)))))) (pv 7) (nomark _))
          (pss_one (ps_ret pe_bl))
          pss_nil)
        (pss_cons (ps_set (i := 8) sc_Lone_right.nd rfl (Or.inl rfl) (pe_callKA G_translated (hr.mono (by decide)) rfl T.g_translated T.F_translated.kp T.kp_translated_0_43210 pass0 (pk_cons (pv 6) (pk_cons (pv 5) (pk_cons (pv 4) (pk_cons (pv 3) (pk_cons (pv 1) pk_nil)))))))
        (pss_cons (ps_set (i := 9) sc_Lone_right.nd rfl (Or.inl rfl) (pe_call G_Lentry (hr.mono (by decide)) rfl T.g_Lentry T.F_Lentry.kp T.b_Lentry .nil pass0 (pa_cons (pv 0) (pa_cons (pe_call G_Ldraw (hr.mono (by decide)) rfl T.g_Ldraw T.F_Ldraw.kp T.b_Ldraw .nil pass0 (pa_cons (pv 0) (pa_cons pe_int pa_nil))) pa_nil))))
        (pss_cons (ps_if (PW.pt (pw_or (pt_cmpR (op_neS hr.units) (pv 8) (pv 7) (nomark _)) (pw_or1 (pt_cmpR (op_neS hr.units) (pe_call G_by_entry (hr.mono (by decide)) rfl T.g_by_entry T.F_by_entry.kp T.b_by_entry .nil pass0 (pa_cons (pv 9) (pa_cons (pv 4) (pa_cons (pv 5) (pa_cons (pv 6) pa_nil))))) (pe_call G_Lsecond (hr.mono (by decide)) rfl T.g_Lsecond T.F_Lsecond.kp T.b_Lsecond .nil pass0 (pa_cons (pv 9) (pa_cons (pv 4) (pa_cons (pv 5) (pa_cons (pv 6) pa_nil))))) (nomark _)))))
          (pss_one (ps_ret pe_bl))
          pss_nil)
        (pss_cons (ps_set (i := 10) sc_Lone_right.nd rfl (Or.inl rfl) (pe_op op_mod (pe_op op_fdiv (pv 9) pe_int) pe_int))
        (pss_cons (ps_set (i := 11) sc_Lone_right.nd rfl (Or.inl rfl) (pe_tup (pa_cons (pe_cmpR op_ge (pv 9) pe_int (nomark _)) (pa_cons (pv 10) (pa_cons (pe_op op_mod (pv 9) pe_int) pa_nil)))))
        (pss_cons (ps_if (pt_cmpR op_ne (pe_callB (call_reprG hg (hr.mono (by decide))) (by rfl) T.m_repr (by decide +kernel) (pa_cons (pe_call G_entry_parts (hr.mono (by decide)) rfl T.g_entry_parts T.F_entry_parts.kp T.b_entry_parts .nil pass0 (pa_cons (pv 9) pa_nil)) pa_nil)) (pe_callB (call_reprG hg (hr.mono (by decide))) (by rfl) T.m_repr (by decide +kernel) (pa_cons (pv 11) pa_nil)) (nomark _))
          (pss_one (ps_ret pe_bl))
          pss_nil)
        (pss_cons (ps_set (i := 12) sc_Lone_right.nd rfl (Or.inl rfl) (pe_op op_add (pe_op op_add pe_int (pe_op op_mulW (pv 10) pe_int)) (pe_op op_mod (pv 9) pe_int)))
        (pss_one (ps_ret (pe_and (pe_cmpR op_eq (pe_call G_page_entry (hr.mono (by decide)) rfl T.g_page_entry T.F_page_entry.kp T.b_page_entry .nil pass0 (pa_cons (pe_op op_mod (pv 9) pe_int) (pa_cons (pv 10) pa_nil))) (pv 12) (nomark _)) (pe_one (pe_cmpR op_eq (pe_callB (call_reprG hg (hr.mono (by decide))) (by rfl) T.m_repr (by decide +kernel) (pa_cons (pe_call G_entry_parts (hr.mono (by decide)) rfl T.g_entry_parts T.F_entry_parts.kp T.b_entry_parts .nil pass0 (pa_cons (pv 12) pa_nil)) pa_nil)) (pe_callB (call_reprG hg (hr.mono (by decide))) (by rfl) T.m_repr (by decide +kernel) (pa_cons (pe_op op_catT (pe_tup (pa_cons pe_bl pa_nil)) (pe_slice sl_tup (pv 11) (po_some pe_int) po_none)) pa_nil)) (nomark _)))))))))))))))))), ?_⟩
    clear G_Ldraw G_Lpick G_Ltold G_translated G_Lentry G_by_entry G_Lsecond G_entry_parts G_page_entry
    clear hr hg
    simp only [MO, List.cons_append, List.nil_append] at hO k
    walk_at "go"
    intro d1 H1 d10 d11 hO
    walk_at "go"
    intro d2 H2 d20 d21 hO
    walk_at "go"
    intro d3 H3 d30 d31 hO
    walk_at "go"
    intro jv v H4 hj hO
    obtain ⟨i, rfl, hi⟩ : ∃ i : Nat, v = V.str (wy i) ∧ i < 3 := by
      rcases jv with _ | _ | _ | jv <;> simp at hj <;> subst hj
      · exact ⟨0, rfl, by decide⟩
      · exact ⟨1, rfl, by decide⟩
      · exact ⟨2, rfl, by decide⟩
    walk_at "go"
    intro u H5 u0 u1 hO
    have hL : LR K H5 rb rs := ⟨hO.dpL (by walk_at "mem")⟩
    have hb2 : ∀ r ∈ rs, 0 ≤ r.2 ∧ r.2 < 65536 := fun r h => (hR.bd r h).2
    walk_at "go"
    intro t ll H6 nt nl s1 e1 e2
    replace hO := hO.adopt2 s1 nt nl e1 e2
    clear s1 nt nl e1 e2 hL
    obtain ⟨ad, ead⟩ : ∃ ad, ad = d1 * 256 + d2 * 16 + d3 := ⟨_, rfl⟩
    have had : 0 ≤ ad ∧ ad < 4096 := by omega
    have heT : ∀ (i : Nat) (u : Bool), tl (G ws) r ad i u = tl (lk rs) r ad i u := fun i u => (tl_congr fun q hq => by
      have b := tl_leans (u := u) hrt.1 had.1 q hq
      exact (heq q b.1 b.2).symm)
    simp only [← ead] at hO ⊢
    clear ead
    generalize decide (V.int u = V.int 0) = ub at hO ⊢
    obtain ⟨RS, eRS⟩ : ∃ RS, RS = tl (lk rs) r ad i ub := ⟨_, rfl⟩
    have hT := (heT i ub).trans eRS.symm
    rw [← eRS] at hO
    clear eRS heT
    have S1 := rs_sh RS
    have hm1 : MemAt T.C_Memory H6 x l ws := ⟨⟨dx, hO.raw (by walk_at "mem")⟩, hO.raw (by walk_at "mem"), hwl, hwb⟩
    walk_at "go"
    intro t2 l2 H7 nt nl s1 e1 e2
    rw [hT] at e1 e2
    replace hO := hO.adopt2 s1 nt nl e1 e2
    clear s1 nt nl e1 e2 hm1
    have D1 : Dp K H7 (.ref t2) (rsD RS) := rs_dp (hO.raw (by walk_at "mem")) (hO.raw (by walk_at "mem"))
    have D2 : Dp K H7 (.ref t) (rsD RS) := rs_dp (ll := ll) (hO.raw (by walk_at "mem")) (hO.raw (by walk_at "mem"))
    have hm2 : MemAt T.C_Memory H7 x l ws := ⟨⟨dx, hO.raw (by walk_at "mem")⟩, hO.raw (by walk_at "mem"), hwl, hwb⟩
    walk_at "go"
    intro t3 l3 H8 nt nl s1 e1 e2
    rw [hT] at e1 e2
    replace hO := hO.adopt2 s1 nt nl e1 e2
    clear s1 nt nl e1 e2 hm2 D1 D2
    walk_at "go"
    intro f H9 f0 f1 hO
    walk_at "go"
    intro w H10 hw hO
    have D1 : Dp K H10 (.ref t3) (rsD RS) := rs_dp (ll := l3) (hO.raw (by walk_at "mem")) (hO.raw (by walk_at "mem"))
    have D2 : Dp K H10 (.ref t) (rsD RS) := rs_dp (ll := ll) (hO.raw (by walk_at "mem")) (hO.raw (by walk_at "mem"))
    walk_at "go"
    intro t4 H11 s4 e4
    walk_at "go"
    intro t5 H12 s5 e5
    replace hO := hO.same (L2.Same.trans s4 s5)
    obtain ⟨SE, eSE⟩ : ∃ SE, SE = sec w ad i ub := ⟨_, rfl⟩
    rw [← eSE] at e4 e5
    have D4 : Dp K H12 (.ref t4) (secD SE) := sec_dp (s5 _ _ e4)
    have D5 : Dp K H12 (.ref t5) (secD SE) := sec_dp e5
    have S4 := sec_sh SE
    clear eSE e4 e5
    obtain ⟨D, hD⟩ : ∃ D, D = ptD w := ⟨_, rfl⟩
    have hsh := pt_show hw
    have T1 : D.showable = true := by rw [hD]; exact hsh.sw
    have T2 : D.hasDict = false := by rw [hD]; exact hsh.nd
    have T3 : D.depth ≤ 64 := by rw [hD]; exact Nat.le_trans hsh.dp (by decide)
    have T4 : D.shown.length ≤ sizeLine := by rw [hD]; exact Nat.le_trans hsh.ln (by rw [sizeLine_eq]; decide)
    clear hsh
    walk_at "go"
    intro t6 H13 s6 e6
    replace hO := hO.same s6
    have D6 : Dp K H13 (.ref t6) D := by rw [hD]; exact .tup (SqT.of e6) (.cons (.bl _) (.cons (.int _) (.cons (.int _) .nil)))
    have D7 : Dp K H13 (.ref p) D := by rw [hD]; exact .tup (SqT.of (hO.ptup (by walk_at "mem"))) (.cons (.bl _) (.cons (.int _) (.cons (.int _) .nil)))
    clear D4 D5 S4 S1 s6 e6
    walk_at "go"
    refine iteN (fun h => absurd rfl h) (fun _ => ?_)
    clear D6 D7 T1 T2 T3 T4 hD
    walk_at "go"
    refine iteD (fun _ => ?_) (fun h => absurd rfl h)
    walk_at "go"
    intro t8 H14 s8 e8
    have em : 0 ≤ 32768 + w / 8192 % 4 * 8192 + w % 64 := by omega
    have e81 : decide (32768 ≤ 32768 + w / 8192 % 4 * 8192 + w % 64) = true := decide_eq_true (by omega)
    have e82 : (32768 + w / 8192 % 4 * 8192 + w % 64) / 8192 % 4 = w / 8192 % 4 := by omega
    have e83 : (32768 + w / 8192 % 4 * 8192 + w % 64) % 64 = w % 64 := by omega
    rw [e81, e82, e83] at e8
    replace hO := hO.same s8
    obtain ⟨D, hD⟩ : ∃ D : PyData, D = .tuple [.bool true, .int (w / 8192 % 4), .int (w % 64)] := ⟨_, rfl⟩
    have hsh : Hx.Sh 1 69 D := by
      rw [hD]
      refine sh_tup (k := 0) (b := 20) 3 (fun d hd => ?_) (Nat.le_refl _)
      simp only [List.mem_cons, List.not_mem_nil, or_false] at hd
      rcases hd with rfl | rfl | rfl
      · exact sh_bl _
      · exact sh_num ⟨by omega, Int.lt_trans (show w / 8192 % 4 < 65536 by omega) (by decide)⟩
      · exact sh_num ⟨by omega, Int.lt_trans (show w % 64 < 65536 by omega) (by decide)⟩
    have T1 : D.showable = true := hsh.sw
    have T2 : D.hasDict = false := hsh.nd
    have T3 : D.depth ≤ 64 := Nat.le_trans hsh.dp (by decide)
    have T4 : D.shown.length ≤ sizeLine := Nat.le_trans hsh.ln (by rw [sizeLine_eq]; decide)
    have D8 : Dp K H14 (.ref t8) D := by rw [hD]; exact .tup (SqT.of e8) (.cons (.bl _) (.cons (.int _) (.cons (.int _) .nil)))
    walk_at "go"
    · exact fun z => nomatch z
    refine ⟨size_le (Nat.le_of_ble_eq_true rfl), fun z => absurd (congrArg List.length z) (fun h => Nat.succ_ne_zero 1 h), ?_⟩
    intro _ p9 fp9
    have hO9 := hO.newT (vs := [.bl true, .int (w / 8192 % 4), .int (w % 64)]) fp9 rfl
    have D9 : Dp K (upd H1 p9 (.tup [.bl true, .int (w / 8192 % 4), .int (w % 64)])) (.ref p9) D := by rw [hD]; exact .tup (SqT.of (hO9.ptup List.mem_cons_self)) (.cons (.bl _) (.cons (.int _) (.cons (.int _) .nil)))
    clear hO
    have hO := hO9
    clear hO9
    walk_at "go"
    refine qbl (k _ ?_) (decide_eq_true rfl)
    refine Own.sub hO ?_ (by walk_at "ps")
    walk_at "sbL"
    exact fun z => Nat.succ_ne_zero 0 z.1
end
end K36

set_option Elab.async false
set_option linter.all false
set_option maxRecDepth 100000
set_option maxHeartbeats 8000000

namespace K36
open PySem PySem.Spec PyProof.Rows L2 Hx 
local macro_rules | `(tactic| walk_at "sm") => `(tactic| repeat' (first | assumption | apply Hx.Same.upd | exact L2.Same.refl _ | apply same_trans'))
local macro_rules | `(tactic| walk_at "hp") => `(tactic| repeat' (first | assumption | exact upd_same | apply old_upd | apply same_at))
local macro_rules | `(tactic| walk_at "rd") => `(tactic| repeat' (first | rfl | apply Exists.intro | apply And.intro | refine iteT ?_ | refine iteF ?_ | exact upd_same | exact SqL.of (by assumption) | exact SqL.of upd_same | exact SqT.of upd_same | exact SqT.of (by assumption) | ((with_reducible show (_ : Int) < _); omega) | ((with_reducible show (_ : Int) ≤ _); omega) | (show (_ : Prop); assumption) | exact Or.inl ⟨_, by assumption, rfl⟩ | exact Or.inl ⟨rfl, _, SqL.of (by assumption)⟩ | exact Or.inl ⟨rfl, _, SqL.of upd_same⟩ | apply old_upd | apply Hx.SqL.new | apply tyl_new | apply Pot.new | exact same_at (by assumption) (by assumption) | exact Or.inl (SqL.of (by assumption)) | exact Or.inl (by assumption) | exact Or.inl (SqL.of upd_same) | exact size_le (Nat.le_of_ble_eq_true rfl) | exact Nat.le_of_ble_eq_true rfl | exact True.intro | exact Or.inl rfl | exact Or.inr rfl | (show (_ : Prop); omega) | (show (_ : Prop); dsimp only; omega) | exact mulw64 (by omega) (by omega) | exact mulw64 (by (try dsimp only); omega) (by (try dsimp only); omega)))
set_option hygiene false in
local macro_rules | `(tactic| walk_at "fl") => `(tactic| simp only [pu_Memory_words, pi_Memory_words] at hO)
local macro_rules | `(tactic| walk_at "mem") => `(tactic| ((repeat (first | exact List.Mem.head _ | apply List.Mem.tail | fail)); done))
local macro_rules | `(tactic| walk_at "setat") => `(tactic| ((repeat (first | (with_reducible exact At.head) | (with_reducible apply At.tail) | (with_reducible apply At.app) | fail)); done))
set_option hygiene false in
local macro_rules | `(tactic| walk_at "dv") => `(tactic| ((repeat' (first | exact Dv.nil | exact Dv.of (by walk_at "mem") | exact Dv.ints _ | exact Dv1.of (by walk_at "mem") | exact Dv1.int _ | exact Dv1.non | exact Dv1.bl _ | exact Dv1.str _ | (with_reducible apply Dv.cons) | refine Dv1.tup (by walk_at "mem") ?_ | refine Dv1.lst (by walk_at "mem") ?_ | (with_reducible apply Dv.app) | fail)); done))
local macro_rules | `(tactic| walk_at "ft") => `(tactic| (first | (with_reducible exact Ft.refl) | ((with_reducible apply Ft.toL); focus walk_at "dv") | ((with_reducible apply Ft.toS); focus assumption) | (with_reducible apply Ft.lst) | (with_reducible apply Ft.Le) | (with_reducible apply Ft.dK) | (with_reducible apply Ft.De) | (with_reducible apply Ft.ins) | (with_reducible apply Ft.toL) | (with_reducible apply Ft.toS) | (with_reducible apply Ft.toD) | fail))
local macro_rules | `(tactic| walk_at "sbL") => `(tactic| repeat' (first | (with_reducible exact Sb.refl _) | exact Sb.nil | (with_reducible apply Sb.cons) | (with_reducible apply Sb.app) | (with_reducible exact Pk.one) | (with_reducible exact Pk.here) | (with_reducible exact Pk.all) | (with_reducible apply Pk.skip1) | (with_reducible apply Pk.skipB) | (with_reducible apply Sb.skip) | (with_reducible apply Sb.skipB) | ((with_reducible show Ft _ _ _ _); walk_at "ft") | ((with_reducible show (_ : List _) = _); (first | rfl | (simp [List.map_set, List.map_append]; done) | fail)) | fail))
local macro_rules | `(tactic| walk_at "sb") => `(tactic| ((walk_at "sbL"); done))
local macro_rules | `(tactic| walk_at "ps") => `(tactic| ((repeat' (first | (with_reducible exact Ps.refl) | exact Ps.nil | (with_reducible apply Ps.cons) | exact List.Mem.head _ | apply List.Mem.tail | (with_reducible apply Ps.skip) | fail)); done))
set_option hygiene false in
local macro_rules | `(tactic| walk_at "at") => `(tactic| first | assumption | exact Own.raw hO (by walk_at "mem") | exact Own.ptup hO (by walk_at "mem") | exact Own.plst hO (by walk_at "mem") | fail)
set_option hygiene false in
local macro_rules | `(tactic| walk_at "st") => `(tactic| (rw [upd_mkO hO]; generalize e : updX _ _ _ = H1; (first | ((apply Own.cset hO e); (focus walk_at "setat"); (try clear hO e); intro hO) | ((apply Own.cnewT hO e); (focus assumption); (try clear hO e); intro hO) | ((apply Own.cnew hO e); (focus assumption); (try clear hO e); intro hO) | fail)))
set_option hygiene false in
local macro_rules | `(tactic| walk_at "mk") => `(tactic| (intro p1 p2 f1 f2 f3; rw [upd_mkO hO]; generalize e : upd (updX _ _ _) _ _ = H1; apply Own.cmake hO f1 f2 f3 e; (try clear hO e); intro hO))
set_option hygiene false in
local macro_rules | `(tactic| walk_at "own") => `(tactic| (first | ((apply Own.sub hO); (focus walk_at "sb"); (focus walk_at "ps")) | ((apply Own.sub hF); (focus walk_at "sb"); (focus walk_at "ps")) | fail))
set_option hygiene false in
local macro_rules | `(tactic| walk_at "fin") => `(tactic| (refine Own.sub hO ?_ (by walk_at "ps"); walk_at "sbL"))
set_option hygiene false in
local macro_rules | `(tactic| walk_at "g1") => `(tactic| (first
 | ((with_reducible show (_ : Option HO) = _); walk_at "at")
 | ((with_reducible show (_ : Int) < _); omega) | ((with_reducible show (_ : Int) ≤ _); omega)
 | ((with_reducible show (_ : Nat) < _); (first | assumption | exact Nat.le_of_ble_eq_true rfl | exact size_lt (Nat.le_of_ble_eq_true rfl) | omega | (simp; done) | (simp; omega) | fail))
 | ((with_reducible show (_ : Nat) ≤ _); (first | assumption | exact Nat.le_of_ble_eq_true rfl | exact size_le (Nat.le_of_ble_eq_true rfl) | omega | (simp; done) | (simp; omega) | fail))
 | ((with_reducible show Own _ _ _ _); (first | walk_at "own" | (walk_at "st"; walk_at "own") | fail))
 | ((with_reducible show SqL _ _ _ _); (first | assumption | exact SqL.of (by walk_at "at") | fail))
 | ((with_reducible show SqT _ _ _ _); (first | assumption | exact hO.psq (by walk_at "mem") | exact SqT.of (by walk_at "at") | fail))
  | ((with_reducible show Cls _ _); exact Txt.cl_Memory T) | ((with_reducible show NoAttr _ _ _); exact Txt.n_Memory_words T) | (with_reducible exact gt_Memory_words) 
 | ((with_reducible show SqL _ _ _ _ ∨ SqT _ _ _ _); (first | exact Or.inl (SqL.of (by walk_at "at")) | exact Or.inr (SqT.of (by walk_at "at")) | fail))
 | ((with_reducible show Dp _ _ _ _); (first | assumption | exact hO.dpL (by walk_at "mem") | exact .lst (SqL.of (by walk_at "at")) (hO.all (by walk_at "dv")) | exact hO.one (by walk_at "dv") | fail))
 | ((with_reducible show TruV _ _ _ _); (first | exact Or.inl ⟨_, SqL.of (by walk_at "at"), rfl⟩ | exact Or.inr (Or.inr ⟨_, by walk_at "at", rfl⟩) | exact Or.inr (Or.inl ⟨_, SqT.of (by walk_at "at"), rfl⟩) | fail))
 | ((with_reducible show RgOk _ _); exact RgOk.of_le (by omega) (by omega) (by omega) (by omega))
 | rfl | (with_reducible assumption) | apply And.intro | apply Exists.intro | refine iteT ?_ | refine iteF ?_
 | (walk_at "st"; (try walk_at "fl"))
 | ((with_reducible show ∀ _ : Addr, _ = none → _); (fail_if_success (with_reducible show ∀ _ : Addr, _ = none → ∃ _ : Nat → Nat → Hp → Prop, _)); intro p fp; walk_at "st")
 | (refine Or.inl ⟨SqL.of (by walk_at "at"), ?_⟩) | (refine Or.inr ⟨SqT.of (by walk_at "at"), ?_⟩) | exact Or.inl ⟨_, by walk_at "at", rfl⟩ | exact Or.inl ⟨rfl, _, SqL.of (by walk_at "at")⟩ | exact tyl_of (by walk_at "at") | exact Or.inl (SqL.of (by walk_at "at")) | exact Or.inr (SqT.of (by walk_at "at")) | exact Or.inl (by walk_at "at") | exact size_le (Nat.le_of_ble_eq_true rfl) | exact Nat.le_of_ble_eq_true rfl | exact True.intro | exact Or.inl rfl | exact Or.inr rfl | (show (_ : Prop); assumption) | (show (_ : Prop); omega) | (show (_ : Prop); dsimp only; omega) | exact mulw64 (by omega) (by omega) | exact mulw64 (by (try dsimp only); omega) (by (try dsimp only); omega) | fail))
local macro_rules | `(tactic| walk_at "go") => `(tactic| repeat walk_at "g1")

section
variable {P : Program} {w : World} {K : PySem.W.Frag} {mg : Str → Option Value} {base : Heap}
theorem lk_snoc {rs : List Pr} {p w z : Int} (h : ∀ r ∈ rs, r.1 ≠ p) : lk (rs ++ [(p, w)]) z = if z = p then w else lk rs z := by
  unfold lk
  rw [List.find?_append]
  by_cases e : z = p
  · subst e
    have n : rs.find? (fun r => r.1 == z) = none := by
      rw [List.find?_eq_none]
      intro r hr
      simp [h r hr]
    rw [n, if_pos rfl]
    simp
  · rw [if_neg e]
    cases e2 : rs.find? (fun r => r.1 == z) with
    | none =>
      have : ¬ p = z := fun y => e y.symm
      simp [this]
    | some r => rfl
theorem G_put {ws : List Int} {q w z : Int} (hl : ws.length = 960) (hq : 0 ≤ q ∧ q < 960) (hz : 0 ≤ z) : G (ws.set q.toNat w) z = if z = q then w else G ws z := by
  unfold G
  rw [List.getD_eq_getElem?_getD, List.getD_eq_getElem?_getD, List.getElem?_set]
  by_cases h : z = q
  · subst h
    rw [if_pos rfl, if_pos rfl, if_pos (by omega)]; rfl
  · rw [if_neg h, if_neg (by omega)]
theorem G_m0 (z : Int) : G m0 z = 0 := by
  unfold G m0
  rw [List.getD_eq_getElem?_getD, List.getElem?_replicate]
  split <;> rfl
theorem adoptG {K : PySem.W.Frag} {H H' : Hp} {L : List (Addr × Ob)} {P : List Pf} {o1 o2 : HO} {t ll : Addr} (h : Own K H L P) (s : Same H H') (n1 : H t = none) (n2 : H ll = none) (ne : ll ≠ t) (e1 : H' t = some o1) (e2 : H' ll = some o2) : Own K H' ((t, .raw o1) :: (ll, .raw o2) :: L) P := by
  have np := h.none_of n1
  have nl := h.none_of n2
  obtain ⟨M, nd, hl, hs, hp⟩ := h.ex
  have mt : ∀ {q : Addr}, H q = none → M q = none := fun {q} n => by
    cases w : M q with
    | none => rfl
    | some v => rw [hs _ _ w] at n; cases n
  refine ⟨M, ?_, fun q hq => ?_, fun b v w => s _ _ (hs _ _ w), hp⟩
  · rw [List.map_cons, List.map_cons, List.nodup_cons, List.nodup_cons]
    refine ⟨fun w => ?_, fun w => by obtain ⟨q, hq, w⟩ := List.mem_map.mp w; exact nl q hq w, nd⟩
    rcases List.mem_cons.mp w with w | w
    · exact ne w.symm
    · obtain ⟨q, hq, w⟩ := List.mem_map.mp w
      exact np q hq w
  · rcases List.mem_cons.mp hq with rfl | hq
    · exact ⟨e1, mt n1⟩
    · rcases List.mem_cons.mp hq with rfl | hq
      · exact ⟨e2, mt n2⟩
      · obtain ⟨v, hv⟩ := (hl q hq).1.some
        exact ⟨(hl q hq).1.same (L2.Same.refl _) ((s _ _ hv).trans hv.symm), (hl q hq).2⟩
def sp_Lright (K : PySem.W.Frag) : Sp := fun vs H Q _ => ∃ (a : Addr) (R : List (Addr × Ob)) (P : List Pf), vs = [.ref a] ∧ Own K H (pt a ++ R) P ∧ ∀ H', Q (.bl true) H'
theorem ok_Lright (T : Txt w K mg) : FnG P w K mg base 12 T.f_Lright T.fd_Lright ["_law_pot_here"] (sp_Lright K) := by
  have G_Lpick := ok_Lpick (P := P) (w := w) (base := base) T
  have G_Memory_init := ok_Memory_init (P := P) (w := w) (base := base) T
  have G_Lrows := ok_Lrows (P := P) (w := w) (base := base) T
  have G_Memory_put := ok_Memory_put (P := P) (w := w) (base := base) T
  have G_Memory_copy := ok_Memory_copy (P := P) (w := w) (base := base) T
  have G_Lone_right := ok_Lone_right (P := P) (w := w) (base := base) T
  have G_Lstraight_right := ok_Lstraight_right (P := P) (w := w) (base := base) T
  have G_Memory_eq := ok_Memory_eq (P := P) (w := w) (base := base) T
  refine fnG T.F_Lright sc_Lright (fun vs H Q E h => ?_) (fun cdv A outer s H vs Q E hr hg h => ?_)
  · obtain ⟨a, R, P, rfl, hO, k⟩ := h; rfl
  · obtain ⟨a, R, P, rfl, hO, k⟩ := h
    refine ⟨_, (pss_cons (ps_par (i := 1) (j := 2) rfl sc_Lright.nd rfl rfl (by decide) rfl rfl (pa_cons (pe_call G_Lpick (hr.mono (by decide)) rfl T.g_Lpick T.F_Lpick.kp T.b_Lpick .nil pass0 (pa_cons (pv 0) (pa_cons (pe_lst (pa_cons pe_int (pa_cons pe_int (pa_cons pe_int (pa_cons pe_int (pa_cons pe_int (pa_cons pe_int pa_nil))))))) pa_nil))) (pa_cons (pe_make0 T.mk_Memory G_Memory_init (hr.mono (by decide)) rfl T.g_Memory T.b_Memory_init .nil pass0) pa_nil)) (by rfl))
        (pss_cons (ps_set (i := 3) sc_Lright.nd rfl (Or.inl rfl) (pe_call G_Lrows (hr.mono (by decide)) rfl T.g_Lrows T.F_Lrows.kp T.b_Lrows .nil pass0 (pa_cons (pv 0) (pa_cons (pv 1) pa_nil))))
        (pss_cons (ps_forS PassesOwn.never rfl (pi_list (pv 3)) (pg_tup rfl (pgs_cons (pg_name (i := 4) sc_Lright.nd rfl (Or.inl rfl)) (pgs_cons (pg_name (i := 5) sc_Lright.nd rfl (Or.inl rfl)) pgs_nil)))
          (pss_one (ps_expr (pe_meth (pv 2) T.cl_Memory T.me_Memory_put G_Memory_put (hr.mono (by decide)) T.b_Memory_put .nil pass0 (pa_cons (pv 4) (pa_cons (pv 5) pa_nil))))))
        (pss_cons (ps_set (i := 6) sc_Lright.nd rfl (Or.inl rfl) (pe_meth0 (pv 2) T.cl_Memory T.me_Memory_copy G_Memory_copy (hr.mono (by decide)) T.b_Memory_copy .nil pass0))
        (pss_cons (ps_forS PassesOwn.never rfl (pi_range1 rfl T.m_range (pa_cons pe_int pa_nil)) (pg_name (i := 7) sc_Lright.nd rfl (Or.inl rfl))
          (pss_one (ps_if (pt_not (pt_val (pe_callG (E := E0) hg G_Lone_right (hr.mono (by decide)) rfl T.g_Lone_right T.F_Lone_right.kp T.b_Lone_right (pa_cons (pv 0) (pa_cons (pv 2) (pa_cons (pv 3) (pa_cons (pv 1) pa_nil)))))))
            (pss_one (ps_ret pe_bl))
            pss_nil)))
        (pss_one (ps_ret (pe_and (pe_cmpR (op_eqOwn G_Memory_eq (hr.mono (by decide)) T.me_Memory_eq.at_ T.me_Memory_eq.fn T.b_Memory_eq) (pv 2) (pv 6) (nomark _)) (pe_one (pe_call G_Lstraight_right (hr.mono (by decide)) rfl T.g_Lstraight_right T.F_Lstraight_right.kp T.b_Lstraight_right .nil pass0 (pa_cons (pv 0) pa_nil))))))))))), ?_⟩
    clear G_Lpick G_Memory_init G_Lrows G_Memory_put G_Memory_copy G_Lone_right G_Lstraight_right G_Memory_eq
    clear hr hg
    walk_at "go"
    intro j v H1 hj hO
    obtain ⟨r, rfl, hr⟩ : ∃ z, v = V.int z ∧ 0 ≤ z ∧ z < 64 := by
      rcases j with _ | _ | _ | _ | _ | _ | j <;> simp at hj <;> subst hj <;> exact ⟨_, rfl, by omega, by omega⟩
    walk_at "go"
    walk_at "mk"
    walk_at "go"
    intro l H2 nl hm bt
    obtain ⟨dx, ex⟩ := hm.ob
    replace hO := hO.butNew bt ex nl hm.at_
    have hwl : m0.length = 960 := hm.len
    have hwb : ∀ z ∈ m0, 0 ≤ z ∧ z < 65536 := hm.bd
    clear bt nl ex hm
    walk_at "go"
    intro rb rs H3 P3 hR sp3 hO
    obtain ⟨lv, o1⟩ := hO.openL (a := rb) (ds := rs.map prD) (by walk_at "mem")
    replace hO := o1 _ (by walk_at "setat")
    have hll := (hO.pdp (vs := lv) (by walk_at "mem")).len
    rw [List.length_map] at hll
    clear o1
    replace hO := Own.sub (L' := pt a ++ ((rb, .raw (.lst lv)) :: (p1, .raw (.ins T.C_Memory dx (F1 l))) :: (l, .raw (.lst (m0.map V.int))) :: R)) hO (by walk_at "sb") Ps.refl
    walk_at "go"
    refine ⟨for_list (xs := lv) (fun i σ H' => Stop (∃ (ws : List Int) (t4 t5 : Option V) (P2 : List Pf), σ = [some (.ref a), some (.int r), some (.ref p1), some (.ref rb), t4, t5, none, none] ∧ ws.length = 960 ∧ (∀ z ∈ ws, 0 ≤ z ∧ z < 65536) ∧ (∀ q, 0 ≤ q → q < 960 → lk (rs.take i) q = G ws q) ∧ Ps (.dp lv (rs.map prD) :: P3) P2 ∧
      Own K H' (pt a ++ ((rb, .raw (.lst lv)) :: (p1, .raw (.ins T.C_Memory dx (F1 l))) :: (l, .raw (.lst (ws.map V.int))) :: R)) P2)) ⟨⟨m0, _, _, _, rfl, hwl, hwb, (fun q _ _ => by rw [List.take_zero, G_m0]; rfl), Ps.refl, hO⟩⟩ (fun i σ H' hi h => ?_) (fun i v σ H' hv h => ?_) (fun σ H' h => ?_)⟩
    · obtain ⟨ws, t4, t5, P2, rfl, hl, hb, he, sp2, hO⟩ := h.h
      exact SqL.of (hO.raw (by walk_at "mem"))
    · clear hO hwl hwb
      obtain ⟨ws, t4, t5, P2, rfl, hl, hb, he, sp2, hO⟩ := h.h
      clear h
      have hir : i < rs.length := by have := (List.getElem?_eq_some_iff.mp hv).1; omega
      obtain ⟨q, hq⟩ : ∃ q, rs[i]? = some q := ⟨_, List.getElem?_eq_getElem hir⟩
      have hqb := hR.bd q (List.mem_of_getElem? hq)
      obtain ⟨t0, rfl, hO⟩ := hO.opn (Dv.get (Dv.of (sp2 _ List.mem_cons_self)) hv (by rw [List.getElem?_map, hq]; rfl : (rs.map prD)[i]? = some (prD q)))
      have ht0 := hO.psq List.mem_cons_self
      have hm : MemAt T.C_Memory H' p1 l ws := ⟨⟨dx, hO.raw (by walk_at "mem")⟩, hO.raw (by walk_at "mem"), hl, hb⟩
      walk_at "go"
      intro H4 hm4 bt
      replace hO := hO.but (L' := pt a ++ ((rb, .raw (.lst lv)) :: (p1, .raw (.ins T.C_Memory dx (F1 l))) :: (l, .raw (.lst ((ws.set q.1.toNat q.2).map V.int))) :: R)) (by walk_at "setat") bt hm4.at_
      walk_at "go"
      refine ⟨⟨ws.set q.1.toNat q.2, _, _, P2, rfl, hm4.len, hm4.bd, fun z z0 z1 => ?_, sp2, hO.sub (Sb.refl _) (Ps.skip Ps.refl)⟩⟩
      have nd2 : ∀ r ∈ rs.take i, r.1 ≠ q.1 := fun w hw e => by
        have nd := hR.nd.sublist ((List.take_sublist (i + 1) rs).map Prod.fst)
        rw [List.take_add_one, hq, List.map_append, List.nodup_append] at nd
        exact nd.2.2 w.1 (List.mem_map_of_mem hw) q.1 (by simp) e
      rw [List.take_add_one, hq]
      show lk (rs.take i ++ [(q.1, q.2)]) z = _
      rw [lk_snoc nd2, G_put hl hqb.1 z0, he z z0 z1]
    clear hO hwl hwb
    obtain ⟨ws, t4, t5, P2, rfl, hl, hb, he, sp2, hO⟩ := h.h
    clear h
    rw [hll, List.take_length] at he
    have hm : MemAt T.C_Memory H' p1 l ws := ⟨⟨dx, hO.raw (by walk_at "mem")⟩, hO.raw (by walk_at "mem"), hl, hb⟩
    replace hO := hO.dv (Dv.of (sp2 _ List.mem_cons_self))
    replace hO := Own.sub (L' := pt a ++ (MO T.C_Memory p1 dx l rb ws rs ++ R)) (P' := P3) hO (by simp only [MO, List.cons_append, List.nil_append]; walk_at "sb") (fun q hq => List.mem_cons_of_mem _ (sp2 q (List.mem_cons_of_mem _ hq)))
    walk_at "go"
    intro x2 l2 H4 nx nl hm2 s4
    have hne : l2 ≠ x2 := hm2.ne
    obtain ⟨dx2, ex2⟩ := hm2.ob
    replace hO := adoptG hO s4 nx nl hne ex2 hm2.at_
    clear hm s4 nx nl hne ex2 hm2
    replace hO := Own.sub (L' := pt a ++ (MO T.C_Memory p1 dx l rb ws rs ++ ((x2, .raw (.ins T.C_Memory dx2 (F1 l2))) :: (l2, .raw (.lst (ws.map V.int))) :: R))) hO (by walk_at "sb") Ps.refl
    walk_at "go"
    refine ⟨for_range (n := ((8 : Int)).toNat) (fun i σ H' => Stop (∃ (t7 : Option V), σ = [some (.ref a), some (.int r), some (.ref p1), some (.ref rb), t4, t5, some (.ref x2), t7] ∧ Own K H' (pt a ++ (MO T.C_Memory p1 dx l rb ws rs ++ ((x2, .raw (.ins T.C_Memory dx2 (F1 l2))) :: (l2, .raw (.lst (ws.map V.int))) :: R))) P3)) ⟨⟨_, rfl, hO⟩⟩ (fun i σ H' hi h => ?_) (fun σ H' h => ?_)⟩
    · clear hO
      obtain ⟨t7, rfl, hO⟩ := h.h
      clear h
      walk_at "go"
      intro H5 hO
      walk_at "go"
      exact ⟨⟨_, rfl, hO⟩⟩
    clear hO
    obtain ⟨t7, rfl, hO⟩ := h.h
    clear h
    have hm1 : MemAt T.C_Memory H' p1 l ws := ⟨⟨dx, hO.raw (by walk_at "mem")⟩, hO.raw (by walk_at "mem"), hl, hb⟩
    have hm2 : MemAt T.C_Memory H' x2 l2 ws := ⟨⟨dx2, hO.raw (by walk_at "mem")⟩, hO.raw (by walk_at "mem"), hl, hb⟩
    walk_at "go"
    refine iteD (fun _ => ?_) (fun h => absurd rfl h)
    walk_at "go"
end
end K36

set_option Elab.async false
set_option linter.all false
set_option maxRecDepth 100000
set_option maxHeartbeats 8000000

namespace K36
open PySem PySem.Spec PyProof.Rows L2 Hx 
local macro_rules | `(tactic| walk_at "sm") => `(tactic| repeat' (first | assumption | apply Hx.Same.upd | exact L2.Same.refl _ | apply same_trans'))
local macro_rules | `(tactic| walk_at "hp") => `(tactic| repeat' (first | assumption | exact upd_same | apply old_upd | apply same_at))
local macro_rules | `(tactic| walk_at "rd") => `(tactic| repeat' (first | rfl | apply Exists.intro | apply And.intro | refine iteT ?_ | refine iteF ?_ | exact upd_same | exact SqL.of (by assumption) | exact SqL.of upd_same | exact SqT.of upd_same | exact SqT.of (by assumption) | ((with_reducible show (_ : Int) < _); omega) | ((with_reducible show (_ : Int) ≤ _); omega) | (show (_ : Prop); assumption) | exact Or.inl ⟨_, by assumption, rfl⟩ | exact Or.inl ⟨rfl, _, SqL.of (by assumption)⟩ | exact Or.inl ⟨rfl, _, SqL.of upd_same⟩ | apply old_upd | apply Hx.SqL.new | apply tyl_new | apply Pot.new | exact same_at (by assumption) (by assumption) | exact Or.inl (SqL.of (by assumption)) | exact Or.inl (by assumption) | exact Or.inl (SqL.of upd_same) | exact size_le (Nat.le_of_ble_eq_true rfl) | exact Nat.le_of_ble_eq_true rfl | exact True.intro | exact Or.inl rfl | exact Or.inr rfl | (show (_ : Prop); omega) | (show (_ : Prop); dsimp only; omega) | exact mulw64 (by omega) (by omega) | exact mulw64 (by (try dsimp only); omega) (by (try dsimp only); omega)))
set_option hygiene false in
local macro_rules | `(tactic| walk_at "fl") => `(tactic| simp only [pu_Memory_words, pi_Memory_words] at hO)
local macro_rules | `(tactic| walk_at "mem") => `(tactic| ((repeat (first | exact List.Mem.head _ | apply List.Mem.tail | fail)); done))
local macro_rules | `(tactic| walk_at "setat") => `(tactic| ((repeat (first | (with_reducible exact At.head) | (with_reducible apply At.tail) | (with_reducible apply At.app) | fail)); done))
set_option hygiene false in
local macro_rules | `(tactic| walk_at "dv") => `(tactic| ((repeat' (first | exact Dv.nil | exact Dv.of (by walk_at "mem") | exact Dv.ints _ | exact Dv1.of (by walk_at "mem") | exact Dv1.int _ | exact Dv1.non | exact Dv1.bl _ | exact Dv1.str _ | (with_reducible apply Dv.cons) | refine Dv1.tup (by walk_at "mem") ?_ | refine Dv1.lst (by walk_at "mem") ?_ | (with_reducible apply Dv.app) | fail)); done))
local macro_rules | `(tactic| walk_at "ft") => `(tactic| (first | (with_reducible exact Ft.refl) | ((with_reducible apply Ft.toL); focus walk_at "dv") | ((with_reducible apply Ft.toS); focus assumption) | (with_reducible apply Ft.lst) | (with_reducible apply Ft.Le) | (with_reducible apply Ft.dK) | (with_reducible apply Ft.De) | (with_reducible apply Ft.ins) | (with_reducible apply Ft.toL) | (with_reducible apply Ft.toS) | (with_reducible apply Ft.toD) | fail))
local macro_rules | `(tactic| walk_at "sbL") => `(tactic| repeat' (first | (with_reducible exact Sb.refl _) | exact Sb.nil | (with_reducible apply Sb.cons) | (with_reducible apply Sb.app) | (with_reducible exact Pk.one) | (with_reducible exact Pk.here) | (with_reducible exact Pk.all) | (with_reducible apply Pk.skip1) | (with_reducible apply Pk.skipB) | (with_reducible apply Sb.skip) | (with_reducible apply Sb.skipB) | ((with_reducible show Ft _ _ _ _); walk_at "ft") | ((with_reducible show (_ : List _) = _); (first | rfl | (simp [List.map_set, List.map_append]; done) | fail)) | fail))
local macro_rules | `(tactic| walk_at "sb") => `(tactic| ((walk_at "sbL"); done))
local macro_rules | `(tactic| walk_at "ps") => `(tactic| ((repeat' (first | (with_reducible exact Ps.refl) | exact Ps.nil | (with_reducible apply Ps.cons) | exact List.Mem.head _ | apply List.Mem.tail | (with_reducible apply Ps.skip) | fail)); done))
set_option hygiene false in
local macro_rules | `(tactic| walk_at "at") => `(tactic| first | assumption | exact Own.raw hO (by walk_at "mem") | exact Own.ptup hO (by walk_at "mem") | exact Own.plst hO (by walk_at "mem") | fail)
set_option hygiene false in
local macro_rules | `(tactic| walk_at "st") => `(tactic| (rw [upd_mkO hO]; generalize e : updX _ _ _ = H1; (first | ((apply Own.cset hO e); (focus walk_at "setat"); (try clear hO e); intro hO) | ((apply Own.cnewT hO e); (focus assumption); (try clear hO e); intro hO) | ((apply Own.cnew hO e); (focus assumption); (try clear hO e); intro hO) | fail)))
set_option hygiene false in
local macro_rules | `(tactic| walk_at "mk") => `(tactic| (intro p1 p2 f1 f2 f3; rw [upd_mkO hO]; generalize e : upd (updX _ _ _) _ _ = H1; apply Own.cmake hO f1 f2 f3 e; (try clear hO e); intro hO))
set_option hygiene false in
local macro_rules | `(tactic| walk_at "own") => `(tactic| (first | ((apply Own.sub hO); (focus walk_at "sb"); (focus walk_at "ps")) | ((apply Own.sub hF); (focus walk_at "sb"); (focus walk_at "ps")) | fail))
set_option hygiene false in
local macro_rules | `(tactic| walk_at "fin") => `(tactic| (refine Own.sub hO ?_ (by walk_at "ps"); walk_at "sbL"))
set_option hygiene false in
local macro_rules | `(tactic| walk_at "g1") => `(tactic| (first
 | ((with_reducible show (_ : Option HO) = _); walk_at "at")
 | ((with_reducible show (_ : Int) < _); omega) | ((with_reducible show (_ : Int) ≤ _); omega)
 | ((with_reducible show (_ : Nat) < _); (first | assumption | exact Nat.le_of_ble_eq_true rfl | exact size_lt (Nat.le_of_ble_eq_true rfl) | omega | (simp; done) | (simp; omega) | fail))
 | ((with_reducible show (_ : Nat) ≤ _); (first | assumption | exact Nat.le_of_ble_eq_true rfl | exact size_le (Nat.le_of_ble_eq_true rfl) | omega | (simp; done) | (simp; omega) | fail))
 | ((with_reducible show Own _ _ _ _); (first | walk_at "own" | (walk_at "st"; walk_at "own") | fail))
 | ((with_reducible show SqL _ _ _ _); (first | assumption | exact SqL.of (by walk_at "at") | fail))
 | ((with_reducible show SqT _ _ _ _); (first | assumption | exact hO.psq (by walk_at "mem") | exact SqT.of (by walk_at "at") | fail))
  | ((with_reducible show Cls _ _); exact Txt.cl_Memory T) | ((with_reducible show NoAttr _ _ _); exact Txt.n_Memory_words T) | (with_reducible exact gt_Memory_words) 
 | ((with_reducible show SqL _ _ _ _ ∨ SqT _ _ _ _); (first | exact Or.inl (SqL.of (by walk_at "at")) | exact Or.inr (SqT.of (by walk_at "at")) | fail))
 | ((with_reducible show Dp _ _ _ _); (first | assumption | exact hO.dpL (by walk_at "mem") | exact .lst (SqL.of (by walk_at "at")) (hO.all (by walk_at "dv")) | exact hO.one (by walk_at "dv") | fail))
 | ((with_reducible show TruV _ _ _ _); (first | exact Or.inl ⟨_, SqL.of (by walk_at "at"), rfl⟩ | exact Or.inr (Or.inr ⟨_, by walk_at "at", rfl⟩) | exact Or.inr (Or.inl ⟨_, SqT.of (by walk_at "at"), rfl⟩) | fail))
 | ((with_reducible show RgOk _ _); exact RgOk.of_le (by omega) (by omega) (by omega) (by omega))
 | rfl | (with_reducible assumption) | apply And.intro | apply Exists.intro | refine iteT ?_ | refine iteF ?_
 | (walk_at "st"; (try walk_at "fl"))
 | ((with_reducible show ∀ _ : Addr, _ = none → _); (fail_if_success (with_reducible show ∀ _ : Addr, _ = none → ∃ _ : Nat → Nat → Hp → Prop, _)); intro p fp; walk_at "st")
 | (refine Or.inl ⟨SqL.of (by walk_at "at"), ?_⟩) | (refine Or.inr ⟨SqT.of (by walk_at "at"), ?_⟩) | exact Or.inl ⟨_, by walk_at "at", rfl⟩ | exact Or.inl ⟨rfl, _, SqL.of (by walk_at "at")⟩ | exact tyl_of (by walk_at "at") | exact Or.inl (SqL.of (by walk_at "at")) | exact Or.inr (SqT.of (by walk_at "at")) | exact Or.inl (by walk_at "at") | exact size_le (Nat.le_of_ble_eq_true rfl) | exact Nat.le_of_ble_eq_true rfl | exact True.intro | exact Or.inl rfl | exact Or.inr rfl | (show (_ : Prop); assumption) | (show (_ : Prop); omega) | (show (_ : Prop); dsimp only; omega) | exact mulw64 (by omega) (by omega) | exact mulw64 (by (try dsimp only); omega) (by (try dsimp only); omega) | fail))
local macro_rules | `(tactic| walk_at "go") => `(tactic| repeat walk_at "g1")

section
variable {P : Program} {w : World} {K : PySem.W.Frag} {mg : Str → Option Value} {base : Heap}
def sp_law (K : PySem.W.Frag) : Sp := fun vs H Q _ => ∃ (a : Addr) (ns : List Int), vs = [.ref a] ∧ SqL K H a (ns.map V.int) ∧ ns.length ≤ 63 ∧ ∀ H', Q (.bl true) H'
theorem ok_law (T : Txt w K mg) : FnG P w K mg base 13 T.f_law T.fd_law ["_law_script"] (sp_law K) := by
  have G_Lright := ok_Lright (P := P) (w := w) (base := base) T
  have G_Lpot := ok_Lpot (P := P) (w := w) (base := base) T
  refine fnG T.F_law sc_law (fun vs H Q E h => ?_) (fun cdv A outer s H vs Q E hr hg h => ?_)
  · obtain ⟨a, ns, rfl, hS, hl, k⟩ := h; rfl
  · obtain ⟨a, ns, rfl, hS, hl, k⟩ := h
    refine ⟨_, (pss_one (ps_ret (pe_callG (E := E0) hg G_Lright (hr.mono (by decide)) rfl T.g_Lright T.F_Lright.kp T.b_Lright (pa_cons (pe_call G_Lpot (hr.mono (by decide)) rfl T.g_Lpot T.F_Lpot.kp T.b_Lpot .nil pass0 (pa_cons (pv 0) (pa_cons pe_int pa_nil))) pa_nil)))), ?_⟩
    clear G_Lright G_Lpot
    clear hr hg
    walk_at "rd"
    intro p H' hO
    walk_at "go"
end
end K36

set_option Elab.async false
set_option linter.all false
set_option maxRecDepth 100000
set_option maxHeartbeats 8000000

namespace K36
open PySem PySem.Spec PyProof.Rows L2 Hx
theorem all_mk {l : PySem.W.OpenLaw} {w : World} {K : PySem.W.Frag} {h : Heap} {mg : Str → Option Value} {fa : Addr} (X : K.In h) (G : h.Ns mainGlobals mg) (hfa : mg "law" = some (.ref fa))
    {C_Memory : Addr}
    {f_is_integer : Addr} {od_is_integer an_is_integer : Option Addr} {sl_is_integer : Array (Option Value)} {oc_is_integer kV_is_integer dc_is_integer pm_is_integer cd_is_integer ct_is_integer : Value}
    {f_is_between : Addr} {od_is_between an_is_between : Option Addr} {sl_is_between : Array (Option Value)} {oc_is_between kV_is_between dc_is_between pm_is_between cd_is_between ct_is_between : Value}
    {f_is_word : Addr} {od_is_word an_is_word : Option Addr} {sl_is_word : Array (Option Value)} {oc_is_word kV_is_word dc_is_word pm_is_word cd_is_word ct_is_word : Value}
    {f_is_address : Addr} {od_is_address an_is_address : Option Addr} {sl_is_address : Array (Option Value)} {oc_is_address kV_is_address dc_is_address pm_is_address cd_is_address ct_is_address : Value}
    {f_is_place : Addr} {od_is_place an_is_place : Option Addr} {sl_is_place : Array (Option Value)} {oc_is_place kV_is_place dc_is_place pm_is_place cd_is_place ct_is_place : Value}
    {f_need_word : Addr} {od_need_word an_need_word : Option Addr} {sl_need_word : Array (Option Value)} {oc_need_word kV_need_word dc_need_word pm_need_word cd_need_word ct_need_word : Value}
    {f_need_address : Addr} {od_need_address an_need_address : Option Addr} {sl_need_address : Array (Option Value)} {oc_need_address kV_need_address dc_need_address pm_need_address cd_need_address ct_need_address : Value}
    {f_need_bits : Addr} {od_need_bits an_need_bits : Option Addr} {sl_need_bits : Array (Option Value)} {oc_need_bits kV_need_bits dc_need_bits pm_need_bits cd_need_bits ct_need_bits : Value}
    {f_bits : Addr} {od_bits an_bits : Option Addr} {sl_bits : Array (Option Value)} {oc_bits kV_bits dc_bits pm_bits cd_bits ct_bits : Value}
    {f_Memory_init : Addr} {od_Memory_init an_Memory_init : Option Addr} {sl_Memory_init : Array (Option Value)} {oc_Memory_init kV_Memory_init dc_Memory_init pm_Memory_init cd_Memory_init ct_Memory_init : Value}
    {f_Memory_word : Addr} {od_Memory_word an_Memory_word : Option Addr} {sl_Memory_word : Array (Option Value)} {oc_Memory_word kV_Memory_word dc_Memory_word pm_Memory_word cd_Memory_word ct_Memory_word : Value}
    {f_Memory_put : Addr} {od_Memory_put an_Memory_put : Option Addr} {sl_Memory_put : Array (Option Value)} {oc_Memory_put kV_Memory_put dc_Memory_put pm_Memory_put cd_Memory_put ct_Memory_put : Value}
    {f_Memory_copy : Addr} {od_Memory_copy an_Memory_copy : Option Addr} {sl_Memory_copy : Array (Option Value)} {oc_Memory_copy kV_Memory_copy dc_Memory_copy pm_Memory_copy cd_Memory_copy ct_Memory_copy : Value}
    {f_Memory_eq : Addr} {od_Memory_eq an_Memory_eq : Option Addr} {sl_Memory_eq : Array (Option Value)} {oc_Memory_eq kV_Memory_eq dc_Memory_eq pm_Memory_eq cd_Memory_eq ct_Memory_eq : Value}
    {f_need_memory : Addr} {od_need_memory an_need_memory : Option Addr} {sl_need_memory : Array (Option Value)} {oc_need_memory kV_need_memory dc_need_memory pm_need_memory cd_need_memory ct_need_memory : Value}
    {f_is_memory_place : Addr} {od_is_memory_place an_is_memory_place : Option Addr} {sl_is_memory_place : Array (Option Value)} {oc_is_memory_place kV_is_memory_place dc_is_memory_place pm_is_memory_place cd_is_memory_place ct_is_memory_place : Value}
    {f_need_memory_place : Addr} {od_need_memory_place an_need_memory_place : Option Addr} {sl_need_memory_place : Array (Option Value)} {oc_need_memory_place kV_need_memory_place dc_need_memory_place pm_need_memory_place cd_need_memory_place ct_need_memory_place : Value}
    {f_need_frame : Addr} {od_need_frame an_need_frame : Option Addr} {sl_need_frame : Array (Option Value)} {oc_need_frame kV_need_frame dc_need_frame pm_need_frame cd_need_frame ct_need_frame : Value}
    {f_need_way : Addr} {od_need_way an_need_way : Option Addr} {sl_need_way : Array (Option Value)} {oc_need_way kV_need_way dc_need_way pm_need_way cd_need_way ct_need_way : Value}
    {f_need_side : Addr} {od_need_side an_need_side : Option Addr} {sl_need_side : Array (Option Value)} {oc_need_side kV_need_side dc_need_side pm_need_side cd_need_side ct_need_side : Value}
    {f_page_entry : Addr} {od_page_entry an_page_entry : Option Addr} {sl_page_entry : Array (Option Value)} {oc_page_entry kV_page_entry dc_page_entry pm_page_entry cd_page_entry ct_page_entry : Value}
    {f_entry_parts : Addr} {od_entry_parts an_entry_parts : Option Addr} {sl_entry_parts : Array (Option Value)} {oc_entry_parts kV_entry_parts dc_entry_parts pm_entry_parts cd_entry_parts ct_entry_parts : Value}
    {f_by_entry : Addr} {od_by_entry an_by_entry : Option Addr} {sl_by_entry : Array (Option Value)} {oc_by_entry kV_by_entry dc_by_entry pm_by_entry cd_by_entry ct_by_entry : Value}
    {f_translated : Addr} {od_translated an_translated : Option Addr} {sl_translated : Array (Option Value)} {oc_translated kV_translated dc_translated pm_translated cd_translated ct_translated : Value}
    {f_walked : Addr} {od_walked an_walked : Option Addr} {sl_walked : Array (Option Value)} {oc_walked kV_walked dc_walked pm_walked cd_walked ct_walked : Value}
    {f_straight : Addr} {od_straight an_straight : Option Addr} {sl_straight : Array (Option Value)} {oc_straight kV_straight dc_straight pm_straight cd_straight ct_straight : Value}
    {f__is_frame : Addr} {od__is_frame an__is_frame : Option Addr} {sl__is_frame : Array (Option Value)} {oc__is_frame kV__is_frame dc__is_frame pm__is_frame cd__is_frame ct__is_frame : Value}
    {f__are_flags : Addr} {od__are_flags an__are_flags : Option Addr} {sl__are_flags : Array (Option Value)} {oc__are_flags kV__are_flags dc__are_flags pm__are_flags cd__are_flags ct__are_flags : Value}
    {f__lets : Addr} {od__lets an__lets : Option Addr} {sl__lets : Array (Option Value)} {oc__lets kV__lets dc__lets pm__lets cd__lets ct__lets : Value}
    {f__entry_place : Addr} {od__entry_place an__entry_place : Option Addr} {sl__entry_place : Array (Option Value)} {oc__entry_place kV__entry_place dc__entry_place pm__entry_place cd__entry_place ct__entry_place : Value}
    {f_Lpot : Addr} {od_Lpot an_Lpot : Option Addr} {sl_Lpot : Array (Option Value)} {oc_Lpot kV_Lpot dc_Lpot pm_Lpot cd_Lpot ct_Lpot : Value}
    {f_Ldraw : Addr} {od_Ldraw an_Ldraw : Option Addr} {sl_Ldraw : Array (Option Value)} {oc_Ldraw kV_Ldraw dc_Ldraw pm_Ldraw cd_Ldraw ct_Ldraw : Value}
    {f_Lpick : Addr} {od_Lpick an_Lpick : Option Addr} {sl_Lpick : Array (Option Value)} {oc_Lpick kV_Lpick dc_Lpick pm_Lpick cd_Lpick ct_Lpick : Value}
    {f_Lword : Addr} {od_Lword an_Lword : Option Addr} {sl_Lword : Array (Option Value)} {oc_Lword kV_Lword dc_Lword pm_Lword cd_Lword ct_Lword : Value}
    {f_Lcause : Addr} {od_Lcause an_Lcause : Option Addr} {sl_Lcause : Array (Option Value)} {oc_Lcause kV_Lcause dc_Lcause pm_Lcause cd_Lcause ct_Lcause : Value}
    {f_Lsecond : Addr} {od_Lsecond an_Lsecond : Option Addr} {sl_Lsecond : Array (Option Value)} {oc_Lsecond kV_Lsecond dc_Lsecond pm_Lsecond cd_Lsecond ct_Lsecond : Value}
    {f_Ltold : Addr} {od_Ltold an_Ltold : Option Addr} {sl_Ltold : Array (Option Value)} {oc_Ltold kV_Ltold dc_Ltold pm_Ltold cd_Ltold ct_Ltold : Value}
    {f_Lentry : Addr} {od_Lentry an_Lentry : Option Addr} {sl_Lentry : Array (Option Value)} {oc_Lentry kV_Lentry dc_Lentry pm_Lentry cd_Lentry ct_Lentry : Value}
    {f_Lrows : Addr} {od_Lrows an_Lrows : Option Addr} {sl_Lrows : Array (Option Value)} {oc_Lrows kV_Lrows dc_Lrows pm_Lrows cd_Lrows ct_Lrows : Value}
    {f_Lone_right : Addr} {od_Lone_right an_Lone_right : Option Addr} {sl_Lone_right : Array (Option Value)} {oc_Lone_right kV_Lone_right dc_Lone_right pm_Lone_right cd_Lone_right ct_Lone_right : Value}
    {f_Lstraight_right : Addr} {od_Lstraight_right an_Lstraight_right : Option Addr} {sl_Lstraight_right : Array (Option Value)} {oc_Lstraight_right kV_Lstraight_right dc_Lstraight_right pm_Lstraight_right cd_Lstraight_right ct_Lstraight_right : Value}
    {f_Lright : Addr} {od_Lright an_Lright : Option Addr} {sl_Lright : Array (Option Value)} {oc_Lright kV_Lright dc_Lright pm_Lright cd_Lright ct_Lright : Value}
    {f_law : Addr} {od_law an_law : Option Addr} {sl_law : Array (Option Value)} {oc_law kV_law dc_law pm_law cd_law ct_law : Value}
    {t_NO_CAUSE : Tok}
    {t_NO_SUCH_PLACE : Tok}
    {t__WORD_BITS : Tok}
    {t_WORDS : Tok}
    {t_ADDRESSES : Tok}
    {t_PLACES : Tok}
    {t_MEMORY_PLACES : Tok}
    {t_PAGE_WORDS : Tok}
    {t__FRAMES : Tok}
    {t__FLAGS : Tok}
    {t__USERS_FLAG : Tok}
    {t__WRITABLE_FLAG : Tok}
    {t__THERE_BIT : Tok}
    {t__FLAGS_BIT : Tok}
    {t__FLAGS_BITS : Tok}
    {t__FRAME_BITS : Tok}
    
    {D_W : Addr} {es_W : Array DictEntry} {nn_W : Nat} {t0_W t1_W t2_W : Tok}
    (aC_Memory : PySem.W.nsIn K mainGlobals "Memory" = some (some (.ref C_Memory))) (pg_Memory : PySem.W.plainGet K C_Memory Str.empty = true) (hd_Memory : PySem.W.hasDictIn K C_Memory = true) (po_Memory : PySem.W.plainOver K C_Memory = true) (sa_Memory : PySem.W.findIn K (.ref C_Memory) "__setattr__" = some (some (.builtin "object.__setattr__"))) (mk_Memory : PySem.W.makesIn K C_Memory = true) (kc_Memory : PySem.W.keepIn K (.ref C_Memory) = true)
    (n_Memory_words : PySem.W.findIn K (.ref C_Memory) "_words" = some none)
    (a_is_integer : PySem.W.nsIn K mainGlobals "is_integer" = some (some (.ref f_is_integer)))
    (l_is_integer : K.lookup f_is_integer = some ⟨oc_is_integer, od_is_integer, .func (PySem.W.fnOf "is_integer" "is_integer" (defArgs s_is_integer) (defBody s_is_integer) (defScope s_is_integer) .none kV_is_integer dc_is_integer pm_is_integer an_is_integer cd_is_integer ct_is_integer), sl_is_integer⟩)
    (c_is_integer : PySem.W.codeIn K cd_is_integer "is_integer" = true) (k_is_integer : PySem.W.keepIn K (.ref f_is_integer) = true)
    (a_is_between : PySem.W.nsIn K mainGlobals "is_between" = some (some (.ref f_is_between)))
    (l_is_between : K.lookup f_is_between = some ⟨oc_is_between, od_is_between, .func (PySem.W.fnOf "is_between" "is_between" (defArgs s_is_between) (defBody s_is_between) (defScope s_is_between) .none kV_is_between dc_is_between pm_is_between an_is_between cd_is_between ct_is_between), sl_is_between⟩)
    (c_is_between : PySem.W.codeIn K cd_is_between "is_between" = true) (k_is_between : PySem.W.keepIn K (.ref f_is_between) = true)
    (a_is_word : PySem.W.nsIn K mainGlobals "is_word" = some (some (.ref f_is_word)))
    (l_is_word : K.lookup f_is_word = some ⟨oc_is_word, od_is_word, .func (PySem.W.fnOf "is_word" "is_word" (defArgs s_is_word) (defBody s_is_word) (defScope s_is_word) .none kV_is_word dc_is_word pm_is_word an_is_word cd_is_word ct_is_word), sl_is_word⟩)
    (c_is_word : PySem.W.codeIn K cd_is_word "is_word" = true) (k_is_word : PySem.W.keepIn K (.ref f_is_word) = true)
    (a_is_address : PySem.W.nsIn K mainGlobals "is_address" = some (some (.ref f_is_address)))
    (l_is_address : K.lookup f_is_address = some ⟨oc_is_address, od_is_address, .func (PySem.W.fnOf "is_address" "is_address" (defArgs s_is_address) (defBody s_is_address) (defScope s_is_address) .none kV_is_address dc_is_address pm_is_address an_is_address cd_is_address ct_is_address), sl_is_address⟩)
    (c_is_address : PySem.W.codeIn K cd_is_address "is_address" = true) (k_is_address : PySem.W.keepIn K (.ref f_is_address) = true)
    (a_is_place : PySem.W.nsIn K mainGlobals "is_place" = some (some (.ref f_is_place)))
    (l_is_place : K.lookup f_is_place = some ⟨oc_is_place, od_is_place, .func (PySem.W.fnOf "is_place" "is_place" (defArgs s_is_place) (defBody s_is_place) (defScope s_is_place) .none kV_is_place dc_is_place pm_is_place an_is_place cd_is_place ct_is_place), sl_is_place⟩)
    (c_is_place : PySem.W.codeIn K cd_is_place "is_place" = true) (k_is_place : PySem.W.keepIn K (.ref f_is_place) = true)
    (a_need_word : PySem.W.nsIn K mainGlobals "need_word" = some (some (.ref f_need_word)))
    (l_need_word : K.lookup f_need_word = some ⟨oc_need_word, od_need_word, .func (PySem.W.fnOf "need_word" "need_word" (defArgs s_need_word) (defBody s_need_word) (defScope s_need_word) .none kV_need_word dc_need_word pm_need_word an_need_word cd_need_word ct_need_word), sl_need_word⟩)
    (c_need_word : PySem.W.codeIn K cd_need_word "need_word" = true) (k_need_word : PySem.W.keepIn K (.ref f_need_word) = true)
    (a_need_address : PySem.W.nsIn K mainGlobals "need_address" = some (some (.ref f_need_address)))
    (l_need_address : K.lookup f_need_address = some ⟨oc_need_address, od_need_address, .func (PySem.W.fnOf "need_address" "need_address" (defArgs s_need_address) (defBody s_need_address) (defScope s_need_address) .none kV_need_address dc_need_address pm_need_address an_need_address cd_need_address ct_need_address), sl_need_address⟩)
    (c_need_address : PySem.W.codeIn K cd_need_address "need_address" = true) (k_need_address : PySem.W.keepIn K (.ref f_need_address) = true)
    (a_need_bits : PySem.W.nsIn K mainGlobals "need_bits" = some (some (.ref f_need_bits)))
    (l_need_bits : K.lookup f_need_bits = some ⟨oc_need_bits, od_need_bits, .func (PySem.W.fnOf "need_bits" "need_bits" (defArgs s_need_bits) (defBody s_need_bits) (defScope s_need_bits) .none kV_need_bits dc_need_bits pm_need_bits an_need_bits cd_need_bits ct_need_bits), sl_need_bits⟩)
    (c_need_bits : PySem.W.codeIn K cd_need_bits "need_bits" = true) (k_need_bits : PySem.W.keepIn K (.ref f_need_bits) = true)
    (a_bits : PySem.W.nsIn K mainGlobals "bits" = some (some (.ref f_bits)))
    (l_bits : K.lookup f_bits = some ⟨oc_bits, od_bits, .func (PySem.W.fnOf "bits" "bits" (defArgs s_bits) (defBody s_bits) (defScope s_bits) .none kV_bits dc_bits pm_bits an_bits cd_bits ct_bits), sl_bits⟩)
    (c_bits : PySem.W.codeIn K cd_bits "bits" = true) (k_bits : PySem.W.keepIn K (.ref f_bits) = true)
    (a_Memory_init : PySem.W.findIn K (.ref C_Memory) "__init__" = some (some (.ref f_Memory_init)))
    (i_Memory_init : PySem.W.isFn K (.ref f_Memory_init) = true)
    (l_Memory_init : K.lookup f_Memory_init = some ⟨oc_Memory_init, od_Memory_init, .func (PySem.W.fnOf "__init__" "Memory.__init__" (defArgs s_Memory_init) (defBody s_Memory_init) (defScope s_Memory_init) .none kV_Memory_init dc_Memory_init pm_Memory_init an_Memory_init cd_Memory_init ct_Memory_init), sl_Memory_init⟩)
    (c_Memory_init : PySem.W.codeIn K cd_Memory_init "Memory.__init__" = true) (k_Memory_init : PySem.W.keepIn K (.ref f_Memory_init) = true)
    (a_Memory_word : PySem.W.findIn K (.ref C_Memory) "word" = some (some (.ref f_Memory_word)))
    (i_Memory_word : PySem.W.isFn K (.ref f_Memory_word) = true)
    (l_Memory_word : K.lookup f_Memory_word = some ⟨oc_Memory_word, od_Memory_word, .func (PySem.W.fnOf "word" "Memory.word" (defArgs s_Memory_word) (defBody s_Memory_word) (defScope s_Memory_word) .none kV_Memory_word dc_Memory_word pm_Memory_word an_Memory_word cd_Memory_word ct_Memory_word), sl_Memory_word⟩)
    (c_Memory_word : PySem.W.codeIn K cd_Memory_word "Memory.word" = true) (k_Memory_word : PySem.W.keepIn K (.ref f_Memory_word) = true)
    (a_Memory_put : PySem.W.findIn K (.ref C_Memory) "put" = some (some (.ref f_Memory_put)))
    (i_Memory_put : PySem.W.isFn K (.ref f_Memory_put) = true)
    (l_Memory_put : K.lookup f_Memory_put = some ⟨oc_Memory_put, od_Memory_put, .func (PySem.W.fnOf "put" "Memory.put" (defArgs s_Memory_put) (defBody s_Memory_put) (defScope s_Memory_put) .none kV_Memory_put dc_Memory_put pm_Memory_put an_Memory_put cd_Memory_put ct_Memory_put), sl_Memory_put⟩)
    (c_Memory_put : PySem.W.codeIn K cd_Memory_put "Memory.put" = true) (k_Memory_put : PySem.W.keepIn K (.ref f_Memory_put) = true)
    (a_Memory_copy : PySem.W.findIn K (.ref C_Memory) "copy" = some (some (.ref f_Memory_copy)))
    (i_Memory_copy : PySem.W.isFn K (.ref f_Memory_copy) = true)
    (l_Memory_copy : K.lookup f_Memory_copy = some ⟨oc_Memory_copy, od_Memory_copy, .func (PySem.W.fnOf "copy" "Memory.copy" (defArgs s_Memory_copy) (defBody s_Memory_copy) (defScope s_Memory_copy) .none kV_Memory_copy dc_Memory_copy pm_Memory_copy an_Memory_copy cd_Memory_copy ct_Memory_copy), sl_Memory_copy⟩)
    (c_Memory_copy : PySem.W.codeIn K cd_Memory_copy "Memory.copy" = true) (k_Memory_copy : PySem.W.keepIn K (.ref f_Memory_copy) = true)
    (a_Memory_eq : PySem.W.findIn K (.ref C_Memory) "__eq__" = some (some (.ref f_Memory_eq)))
    (i_Memory_eq : PySem.W.isFn K (.ref f_Memory_eq) = true)
    (l_Memory_eq : K.lookup f_Memory_eq = some ⟨oc_Memory_eq, od_Memory_eq, .func (PySem.W.fnOf "__eq__" "Memory.__eq__" (defArgs s_Memory_eq) (defBody s_Memory_eq) (defScope s_Memory_eq) .none kV_Memory_eq dc_Memory_eq pm_Memory_eq an_Memory_eq cd_Memory_eq ct_Memory_eq), sl_Memory_eq⟩)
    (c_Memory_eq : PySem.W.codeIn K cd_Memory_eq "Memory.__eq__" = true) (k_Memory_eq : PySem.W.keepIn K (.ref f_Memory_eq) = true)
    (a_need_memory : PySem.W.nsIn K mainGlobals "need_memory" = some (some (.ref f_need_memory)))
    (l_need_memory : K.lookup f_need_memory = some ⟨oc_need_memory, od_need_memory, .func (PySem.W.fnOf "need_memory" "need_memory" (defArgs s_need_memory) (defBody s_need_memory) (defScope s_need_memory) .none kV_need_memory dc_need_memory pm_need_memory an_need_memory cd_need_memory ct_need_memory), sl_need_memory⟩)
    (c_need_memory : PySem.W.codeIn K cd_need_memory "need_memory" = true) (k_need_memory : PySem.W.keepIn K (.ref f_need_memory) = true)
    (a_is_memory_place : PySem.W.nsIn K mainGlobals "is_memory_place" = some (some (.ref f_is_memory_place)))
    (l_is_memory_place : K.lookup f_is_memory_place = some ⟨oc_is_memory_place, od_is_memory_place, .func (PySem.W.fnOf "is_memory_place" "is_memory_place" (defArgs s_is_memory_place) (defBody s_is_memory_place) (defScope s_is_memory_place) .none kV_is_memory_place dc_is_memory_place pm_is_memory_place an_is_memory_place cd_is_memory_place ct_is_memory_place), sl_is_memory_place⟩)
    (c_is_memory_place : PySem.W.codeIn K cd_is_memory_place "is_memory_place" = true) (k_is_memory_place : PySem.W.keepIn K (.ref f_is_memory_place) = true)
    (a_need_memory_place : PySem.W.nsIn K mainGlobals "need_memory_place" = some (some (.ref f_need_memory_place)))
    (l_need_memory_place : K.lookup f_need_memory_place = some ⟨oc_need_memory_place, od_need_memory_place, .func (PySem.W.fnOf "need_memory_place" "need_memory_place" (defArgs s_need_memory_place) (defBody s_need_memory_place) (defScope s_need_memory_place) .none kV_need_memory_place dc_need_memory_place pm_need_memory_place an_need_memory_place cd_need_memory_place ct_need_memory_place), sl_need_memory_place⟩)
    (c_need_memory_place : PySem.W.codeIn K cd_need_memory_place "need_memory_place" = true) (k_need_memory_place : PySem.W.keepIn K (.ref f_need_memory_place) = true)
    (a_need_frame : PySem.W.nsIn K mainGlobals "need_frame" = some (some (.ref f_need_frame)))
    (l_need_frame : K.lookup f_need_frame = some ⟨oc_need_frame, od_need_frame, .func (PySem.W.fnOf "need_frame" "need_frame" (defArgs s_need_frame) (defBody s_need_frame) (defScope s_need_frame) .none kV_need_frame dc_need_frame pm_need_frame an_need_frame cd_need_frame ct_need_frame), sl_need_frame⟩)
    (c_need_frame : PySem.W.codeIn K cd_need_frame "need_frame" = true) (k_need_frame : PySem.W.keepIn K (.ref f_need_frame) = true)
    (a_need_way : PySem.W.nsIn K mainGlobals "need_way" = some (some (.ref f_need_way)))
    (l_need_way : K.lookup f_need_way = some ⟨oc_need_way, od_need_way, .func (PySem.W.fnOf "need_way" "need_way" (defArgs s_need_way) (defBody s_need_way) (defScope s_need_way) .none kV_need_way dc_need_way pm_need_way an_need_way cd_need_way ct_need_way), sl_need_way⟩)
    (c_need_way : PySem.W.codeIn K cd_need_way "need_way" = true) (k_need_way : PySem.W.keepIn K (.ref f_need_way) = true)
    (a_need_side : PySem.W.nsIn K mainGlobals "need_side" = some (some (.ref f_need_side)))
    (l_need_side : K.lookup f_need_side = some ⟨oc_need_side, od_need_side, .func (PySem.W.fnOf "need_side" "need_side" (defArgs s_need_side) (defBody s_need_side) (defScope s_need_side) .none kV_need_side dc_need_side pm_need_side an_need_side cd_need_side ct_need_side), sl_need_side⟩)
    (c_need_side : PySem.W.codeIn K cd_need_side "need_side" = true) (k_need_side : PySem.W.keepIn K (.ref f_need_side) = true)
    (a_page_entry : PySem.W.nsIn K mainGlobals "page_entry" = some (some (.ref f_page_entry)))
    (l_page_entry : K.lookup f_page_entry = some ⟨oc_page_entry, od_page_entry, .func (PySem.W.fnOf "page_entry" "page_entry" (defArgs s_page_entry) (defBody s_page_entry) (defScope s_page_entry) .none kV_page_entry dc_page_entry pm_page_entry an_page_entry cd_page_entry ct_page_entry), sl_page_entry⟩)
    (c_page_entry : PySem.W.codeIn K cd_page_entry "page_entry" = true) (k_page_entry : PySem.W.keepIn K (.ref f_page_entry) = true)
    (a_entry_parts : PySem.W.nsIn K mainGlobals "entry_parts" = some (some (.ref f_entry_parts)))
    (l_entry_parts : K.lookup f_entry_parts = some ⟨oc_entry_parts, od_entry_parts, .func (PySem.W.fnOf "entry_parts" "entry_parts" (defArgs s_entry_parts) (defBody s_entry_parts) (defScope s_entry_parts) .none kV_entry_parts dc_entry_parts pm_entry_parts an_entry_parts cd_entry_parts ct_entry_parts), sl_entry_parts⟩)
    (c_entry_parts : PySem.W.codeIn K cd_entry_parts "entry_parts" = true) (k_entry_parts : PySem.W.keepIn K (.ref f_entry_parts) = true)
    (a_by_entry : PySem.W.nsIn K mainGlobals "by_entry" = some (some (.ref f_by_entry)))
    (l_by_entry : K.lookup f_by_entry = some ⟨oc_by_entry, od_by_entry, .func (PySem.W.fnOf "by_entry" "by_entry" (defArgs s_by_entry) (defBody s_by_entry) (defScope s_by_entry) .none kV_by_entry dc_by_entry pm_by_entry an_by_entry cd_by_entry ct_by_entry), sl_by_entry⟩)
    (c_by_entry : PySem.W.codeIn K cd_by_entry "by_entry" = true) (k_by_entry : PySem.W.keepIn K (.ref f_by_entry) = true)
    (a_translated : PySem.W.nsIn K mainGlobals "translated" = some (some (.ref f_translated)))
    (l_translated : K.lookup f_translated = some ⟨oc_translated, od_translated, .func (PySem.W.fnOf "translated" "translated" (defArgs s_translated) (defBody s_translated) (defScope s_translated) .none kV_translated dc_translated pm_translated an_translated cd_translated ct_translated), sl_translated⟩)
    (c_translated : PySem.W.codeIn K cd_translated "translated" = true) (k_translated : PySem.W.keepIn K (.ref f_translated) = true)
    (a_walked : PySem.W.nsIn K mainGlobals "walked" = some (some (.ref f_walked)))
    (l_walked : K.lookup f_walked = some ⟨oc_walked, od_walked, .func (PySem.W.fnOf "walked" "walked" (defArgs s_walked) (defBody s_walked) (defScope s_walked) .none kV_walked dc_walked pm_walked an_walked cd_walked ct_walked), sl_walked⟩)
    (c_walked : PySem.W.codeIn K cd_walked "walked" = true) (k_walked : PySem.W.keepIn K (.ref f_walked) = true)
    (a_straight : PySem.W.nsIn K mainGlobals "straight" = some (some (.ref f_straight)))
    (l_straight : K.lookup f_straight = some ⟨oc_straight, od_straight, .func (PySem.W.fnOf "straight" "straight" (defArgs s_straight) (defBody s_straight) (defScope s_straight) .none kV_straight dc_straight pm_straight an_straight cd_straight ct_straight), sl_straight⟩)
    (c_straight : PySem.W.codeIn K cd_straight "straight" = true) (k_straight : PySem.W.keepIn K (.ref f_straight) = true)
    (a__is_frame : PySem.W.nsIn K mainGlobals "_is_frame" = some (some (.ref f__is_frame)))
    (l__is_frame : K.lookup f__is_frame = some ⟨oc__is_frame, od__is_frame, .func (PySem.W.fnOf "_is_frame" "_is_frame" (defArgs s__is_frame) (defBody s__is_frame) (defScope s__is_frame) .none kV__is_frame dc__is_frame pm__is_frame an__is_frame cd__is_frame ct__is_frame), sl__is_frame⟩)
    (c__is_frame : PySem.W.codeIn K cd__is_frame "_is_frame" = true) (k__is_frame : PySem.W.keepIn K (.ref f__is_frame) = true)
    (a__are_flags : PySem.W.nsIn K mainGlobals "_are_flags" = some (some (.ref f__are_flags)))
    (l__are_flags : K.lookup f__are_flags = some ⟨oc__are_flags, od__are_flags, .func (PySem.W.fnOf "_are_flags" "_are_flags" (defArgs s__are_flags) (defBody s__are_flags) (defScope s__are_flags) .none kV__are_flags dc__are_flags pm__are_flags an__are_flags cd__are_flags ct__are_flags), sl__are_flags⟩)
    (c__are_flags : PySem.W.codeIn K cd__are_flags "_are_flags" = true) (k__are_flags : PySem.W.keepIn K (.ref f__are_flags) = true)
    (a__lets : PySem.W.nsIn K mainGlobals "_lets" = some (some (.ref f__lets)))
    (l__lets : K.lookup f__lets = some ⟨oc__lets, od__lets, .func (PySem.W.fnOf "_lets" "_lets" (defArgs s__lets) (defBody s__lets) (defScope s__lets) .none kV__lets dc__lets pm__lets an__lets cd__lets ct__lets), sl__lets⟩)
    (c__lets : PySem.W.codeIn K cd__lets "_lets" = true) (k__lets : PySem.W.keepIn K (.ref f__lets) = true)
    (a__entry_place : PySem.W.nsIn K mainGlobals "_entry_place" = some (some (.ref f__entry_place)))
    (l__entry_place : K.lookup f__entry_place = some ⟨oc__entry_place, od__entry_place, .func (PySem.W.fnOf "_entry_place" "_entry_place" (defArgs s__entry_place) (defBody s__entry_place) (defScope s__entry_place) .none kV__entry_place dc__entry_place pm__entry_place an__entry_place cd__entry_place ct__entry_place), sl__entry_place⟩)
    (c__entry_place : PySem.W.codeIn K cd__entry_place "_entry_place" = true) (k__entry_place : PySem.W.keepIn K (.ref f__entry_place) = true)
    (a_Lpot : PySem.W.nsIn K mainGlobals "_law_pot" = some (some (.ref f_Lpot)))
    (l_Lpot : K.lookup f_Lpot = some ⟨oc_Lpot, od_Lpot, .func (PySem.W.fnOf "_law_pot" "_law_pot" (defArgs s_Lpot) (defBody s_Lpot) (defScope s_Lpot) .none kV_Lpot dc_Lpot pm_Lpot an_Lpot cd_Lpot ct_Lpot), sl_Lpot⟩)
    (c_Lpot : PySem.W.codeIn K cd_Lpot "_law_pot" = true) (k_Lpot : PySem.W.keepIn K (.ref f_Lpot) = true)
    (a_Ldraw : PySem.W.nsIn K mainGlobals "_law_draw" = some (some (.ref f_Ldraw)))
    (l_Ldraw : K.lookup f_Ldraw = some ⟨oc_Ldraw, od_Ldraw, .func (PySem.W.fnOf "_law_draw" "_law_draw" (defArgs s_Ldraw) (defBody s_Ldraw) (defScope s_Ldraw) .none kV_Ldraw dc_Ldraw pm_Ldraw an_Ldraw cd_Ldraw ct_Ldraw), sl_Ldraw⟩)
    (c_Ldraw : PySem.W.codeIn K cd_Ldraw "_law_draw" = true) (k_Ldraw : PySem.W.keepIn K (.ref f_Ldraw) = true)
    (a_Lpick : PySem.W.nsIn K mainGlobals "_law_pick" = some (some (.ref f_Lpick)))
    (l_Lpick : K.lookup f_Lpick = some ⟨oc_Lpick, od_Lpick, .func (PySem.W.fnOf "_law_pick" "_law_pick" (defArgs s_Lpick) (defBody s_Lpick) (defScope s_Lpick) .none kV_Lpick dc_Lpick pm_Lpick an_Lpick cd_Lpick ct_Lpick), sl_Lpick⟩)
    (c_Lpick : PySem.W.codeIn K cd_Lpick "_law_pick" = true) (k_Lpick : PySem.W.keepIn K (.ref f_Lpick) = true)
    (a_Lword : PySem.W.nsIn K mainGlobals "_law_word" = some (some (.ref f_Lword)))
    (l_Lword : K.lookup f_Lword = some ⟨oc_Lword, od_Lword, .func (PySem.W.fnOf "_law_word" "_law_word" (defArgs s_Lword) (defBody s_Lword) (defScope s_Lword) .none kV_Lword dc_Lword pm_Lword an_Lword cd_Lword ct_Lword), sl_Lword⟩)
    (c_Lword : PySem.W.codeIn K cd_Lword "_law_word" = true) (k_Lword : PySem.W.keepIn K (.ref f_Lword) = true)
    (a_Lcause : PySem.W.nsIn K mainGlobals "_law_cause" = some (some (.ref f_Lcause)))
    (l_Lcause : K.lookup f_Lcause = some ⟨oc_Lcause, od_Lcause, .func (PySem.W.fnOf "_law_cause" "_law_cause" (defArgs s_Lcause) (defBody s_Lcause) (defScope s_Lcause) .none kV_Lcause dc_Lcause pm_Lcause an_Lcause cd_Lcause ct_Lcause), sl_Lcause⟩)
    (c_Lcause : PySem.W.codeIn K cd_Lcause "_law_cause" = true) (k_Lcause : PySem.W.keepIn K (.ref f_Lcause) = true)
    (a_Lsecond : PySem.W.nsIn K mainGlobals "_law_second" = some (some (.ref f_Lsecond)))
    (l_Lsecond : K.lookup f_Lsecond = some ⟨oc_Lsecond, od_Lsecond, .func (PySem.W.fnOf "_law_second" "_law_second" (defArgs s_Lsecond) (defBody s_Lsecond) (defScope s_Lsecond) .none kV_Lsecond dc_Lsecond pm_Lsecond an_Lsecond cd_Lsecond ct_Lsecond), sl_Lsecond⟩)
    (c_Lsecond : PySem.W.codeIn K cd_Lsecond "_law_second" = true) (k_Lsecond : PySem.W.keepIn K (.ref f_Lsecond) = true)
    (a_Ltold : PySem.W.nsIn K mainGlobals "_law_told" = some (some (.ref f_Ltold)))
    (l_Ltold : K.lookup f_Ltold = some ⟨oc_Ltold, od_Ltold, .func (PySem.W.fnOf "_law_told" "_law_told" (defArgs s_Ltold) (defBody s_Ltold) (defScope s_Ltold) .none kV_Ltold dc_Ltold pm_Ltold an_Ltold cd_Ltold ct_Ltold), sl_Ltold⟩)
    (c_Ltold : PySem.W.codeIn K cd_Ltold "_law_told" = true) (k_Ltold : PySem.W.keepIn K (.ref f_Ltold) = true)
    (a_Lentry : PySem.W.nsIn K mainGlobals "_law_entry" = some (some (.ref f_Lentry)))
    (l_Lentry : K.lookup f_Lentry = some ⟨oc_Lentry, od_Lentry, .func (PySem.W.fnOf "_law_entry" "_law_entry" (defArgs s_Lentry) (defBody s_Lentry) (defScope s_Lentry) .none kV_Lentry dc_Lentry pm_Lentry an_Lentry cd_Lentry ct_Lentry), sl_Lentry⟩)
    (c_Lentry : PySem.W.codeIn K cd_Lentry "_law_entry" = true) (k_Lentry : PySem.W.keepIn K (.ref f_Lentry) = true)
    (a_Lrows : PySem.W.nsIn K mainGlobals "_law_rows" = some (some (.ref f_Lrows)))
    (l_Lrows : K.lookup f_Lrows = some ⟨oc_Lrows, od_Lrows, .func (PySem.W.fnOf "_law_rows" "_law_rows" (defArgs s_Lrows) (defBody s_Lrows) (defScope s_Lrows) .none kV_Lrows dc_Lrows pm_Lrows an_Lrows cd_Lrows ct_Lrows), sl_Lrows⟩)
    (c_Lrows : PySem.W.codeIn K cd_Lrows "_law_rows" = true) (k_Lrows : PySem.W.keepIn K (.ref f_Lrows) = true)
    (a_Lone_right : PySem.W.nsIn K mainGlobals "_law_one_right" = some (some (.ref f_Lone_right)))
    (l_Lone_right : K.lookup f_Lone_right = some ⟨oc_Lone_right, od_Lone_right, .func (PySem.W.fnOf "_law_one_right" "_law_one_right" (defArgs s_Lone_right) (defBody s_Lone_right) (defScope s_Lone_right) .none kV_Lone_right dc_Lone_right pm_Lone_right an_Lone_right cd_Lone_right ct_Lone_right), sl_Lone_right⟩)
    (c_Lone_right : PySem.W.codeIn K cd_Lone_right "_law_one_right" = true) (k_Lone_right : PySem.W.keepIn K (.ref f_Lone_right) = true)
    (a_Lstraight_right : PySem.W.nsIn K mainGlobals "_law_straight_right" = some (some (.ref f_Lstraight_right)))
    (l_Lstraight_right : K.lookup f_Lstraight_right = some ⟨oc_Lstraight_right, od_Lstraight_right, .func (PySem.W.fnOf "_law_straight_right" "_law_straight_right" (defArgs s_Lstraight_right) (defBody s_Lstraight_right) (defScope s_Lstraight_right) .none kV_Lstraight_right dc_Lstraight_right pm_Lstraight_right an_Lstraight_right cd_Lstraight_right ct_Lstraight_right), sl_Lstraight_right⟩)
    (c_Lstraight_right : PySem.W.codeIn K cd_Lstraight_right "_law_straight_right" = true) (k_Lstraight_right : PySem.W.keepIn K (.ref f_Lstraight_right) = true)
    (a_Lright : PySem.W.nsIn K mainGlobals "_law_right" = some (some (.ref f_Lright)))
    (l_Lright : K.lookup f_Lright = some ⟨oc_Lright, od_Lright, .func (PySem.W.fnOf "_law_right" "_law_right" (defArgs s_Lright) (defBody s_Lright) (defScope s_Lright) .none kV_Lright dc_Lright pm_Lright an_Lright cd_Lright ct_Lright), sl_Lright⟩)
    (c_Lright : PySem.W.codeIn K cd_Lright "_law_right" = true) (k_Lright : PySem.W.keepIn K (.ref f_Lright) = true)
    (a_law : PySem.W.nsIn K mainGlobals "law" = some (some (.ref f_law)))
    (l_law : K.lookup f_law = some ⟨oc_law, od_law, .func (PySem.W.fnOf "law" "law" (defArgs s_law) (defBody s_law) (defScope s_law) .none kV_law dc_law pm_law an_law cd_law ct_law), sl_law⟩)
    (c_law : PySem.W.codeIn K cd_law "law" = true) (k_law : PySem.W.keepIn K (.ref f_law) = true)
    (z_abs : PySem.W.nsIn K mainGlobals "abs" = some none)
    (z_bool : PySem.W.nsIn K mainGlobals "bool" = some none)
    (z_divmod : PySem.W.nsIn K mainGlobals "divmod" = some none)
    (z_int : PySem.W.nsIn K mainGlobals "int" = some none)
    (z_isinstance : PySem.W.nsIn K mainGlobals "isinstance" = some none)
    (z_len : PySem.W.nsIn K mainGlobals "len" = some none)
    (z_list : PySem.W.nsIn K mainGlobals "list" = some none)
    (z_max : PySem.W.nsIn K mainGlobals "max" = some none)
    (z_range : PySem.W.nsIn K mainGlobals "range" = some none)
    (z_repr : PySem.W.nsIn K mainGlobals "repr" = some none)
    (z_str : PySem.W.nsIn K mainGlobals "str" = some none)
    (x_NO_CAUSE : PySem.W.nsIn K mainGlobals "NO_CAUSE" = some (some (.int 0 t_NO_CAUSE)))
    (x_NO_SUCH_PLACE : PySem.W.nsIn K mainGlobals "NO_SUCH_PLACE" = some (some (.int 7 t_NO_SUCH_PLACE)))
    (x__WORD_BITS : PySem.W.nsIn K mainGlobals "_WORD_BITS" = some (some (.int 16 t__WORD_BITS)))
    (x_WORDS : PySem.W.nsIn K mainGlobals "WORDS" = some (some (.int 65536 t_WORDS)))
    (x_ADDRESSES : PySem.W.nsIn K mainGlobals "ADDRESSES" = some (some (.int 4096 t_ADDRESSES)))
    (x_PLACES : PySem.W.nsIn K mainGlobals "PLACES" = some (some (.int 1024 t_PLACES)))
    (x_MEMORY_PLACES : PySem.W.nsIn K mainGlobals "MEMORY_PLACES" = some (some (.int 960 t_MEMORY_PLACES)))
    (x_PAGE_WORDS : PySem.W.nsIn K mainGlobals "PAGE_WORDS" = some (some (.int 16 t_PAGE_WORDS)))
    (x__FRAMES : PySem.W.nsIn K mainGlobals "_FRAMES" = some (some (.int 64 t__FRAMES)))
    (x__FLAGS : PySem.W.nsIn K mainGlobals "_FLAGS" = some (some (.int 4 t__FLAGS)))
    (x__USERS_FLAG : PySem.W.nsIn K mainGlobals "_USERS_FLAG" = some (some (.int 1 t__USERS_FLAG)))
    (x__WRITABLE_FLAG : PySem.W.nsIn K mainGlobals "_WRITABLE_FLAG" = some (some (.int 2 t__WRITABLE_FLAG)))
    (x__THERE_BIT : PySem.W.nsIn K mainGlobals "_THERE_BIT" = some (some (.int 15 t__THERE_BIT)))
    (x__FLAGS_BIT : PySem.W.nsIn K mainGlobals "_FLAGS_BIT" = some (some (.int 13 t__FLAGS_BIT)))
    (x__FLAGS_BITS : PySem.W.nsIn K mainGlobals "_FLAGS_BITS" = some (some (.int 2 t__FLAGS_BITS)))
    (x__FRAME_BITS : PySem.W.nsIn K mainGlobals "_FRAME_BITS" = some (some (.int 6 t__FRAME_BITS)))
    (ic_Memory : PySem.W.findIn K (.ref C_Memory) "__class__" = some (some (.builtin "object.__class__"))) (in_Memory : PySem.W.specialIn K (.builtin "object.__class__") "__get__" = some (some (.builtin "getset_descriptor.__get__"))) (it_Memory : PySem.W.takesIn K (.builtin "object.__class__") = some true) (im_Memory : PySem.W.mroIn K C_Memory (.type "object") = some true)
    (aW : PySem.W.nsIn K mainGlobals "_WAY_CAUSES" = some (some (.ref D_W))) (lW : K.lookup D_W = some ⟨.type "dict", none, .dict es_W nn_W, #[]⟩) (yW : PySem.W.KeysLit w.params es_W.toList) (sW : (D_W == sysModules) = false) (w0W : PySem.W.nsIn K D_W "fetch" = some (some (.int 4 t0_W))) (w1W : PySem.W.nsIn K D_W "load" = some (some (.int 5 t1_W))) (w2W : PySem.W.nsIn K D_W "store" = some (some (.int 6 t2_W)))
    : ∃ fd : FuncData, (∀ (s : Shared) (v : Value), BindsTo s fd ⟨[v], []⟩ [("_law_script", v)]) ∧ ∀ base : Heap, K.In base → base.Ns mainGlobals mg → FnG l.prog w K mg base 13 fa fd ["_law_script"] (sp_law K) := by
  have e := hfa.symm.trans (PySem.W.mg_of X G a_law)
  cases e
  let T : Txt w K mg := {
    C_Memory := C_Memory, cl_Memory := ⟨pg_Memory, hd_Memory, po_Memory, sa_Memory⟩, g_Memory := PySem.W.mg_of X G aC_Memory,
    n_Memory_words := n_Memory_words,
    f_is_integer := _, fd_is_integer := _, F_is_integer := fun_mk (st := s_is_integer) l_is_integer c_is_integer k_is_integer,
    g_is_integer := PySem.W.mg_of X G a_is_integer,
    b_is_integer := (fun_mk (st := s_is_integer) l_is_integer c_is_integer k_is_integer).binds (ps := ["value"]) fun _ _ _ _ _ _ us hl => match us, hl with | [_], _ => rfl,
    f_is_between := _, fd_is_between := _, F_is_between := fun_mk (st := s_is_between) l_is_between c_is_between k_is_between,
    g_is_between := PySem.W.mg_of X G a_is_between,
    b_is_between := (fun_mk (st := s_is_between) l_is_between c_is_between k_is_between).binds (ps := ["value", "least", "most"]) fun _ _ _ _ _ _ us hl => match us, hl with | [_, _, _], _ => rfl,
    f_is_word := _, fd_is_word := _, F_is_word := fun_mk (st := s_is_word) l_is_word c_is_word k_is_word,
    g_is_word := PySem.W.mg_of X G a_is_word,
    b_is_word := (fun_mk (st := s_is_word) l_is_word c_is_word k_is_word).binds (ps := ["value"]) fun _ _ _ _ _ _ us hl => match us, hl with | [_], _ => rfl,
    f_is_address := _, fd_is_address := _, F_is_address := fun_mk (st := s_is_address) l_is_address c_is_address k_is_address,
    g_is_address := PySem.W.mg_of X G a_is_address,
    b_is_address := (fun_mk (st := s_is_address) l_is_address c_is_address k_is_address).binds (ps := ["value"]) fun _ _ _ _ _ _ us hl => match us, hl with | [_], _ => rfl,
    f_is_place := _, fd_is_place := _, F_is_place := fun_mk (st := s_is_place) l_is_place c_is_place k_is_place,
    g_is_place := PySem.W.mg_of X G a_is_place,
    b_is_place := (fun_mk (st := s_is_place) l_is_place c_is_place k_is_place).binds (ps := ["value"]) fun _ _ _ _ _ _ us hl => match us, hl with | [_], _ => rfl,
    f_need_word := _, fd_need_word := _, F_need_word := fun_mk (st := s_need_word) l_need_word c_need_word k_need_word,
    g_need_word := PySem.W.mg_of X G a_need_word,
    b_need_word := (fun_mk (st := s_need_word) l_need_word c_need_word k_need_word).binds (ps := ["value"]) fun _ _ _ _ _ _ us hl => match us, hl with | [_], _ => rfl,
    f_need_address := _, fd_need_address := _, F_need_address := fun_mk (st := s_need_address) l_need_address c_need_address k_need_address,
    g_need_address := PySem.W.mg_of X G a_need_address,
    b_need_address := (fun_mk (st := s_need_address) l_need_address c_need_address k_need_address).binds (ps := ["value"]) fun _ _ _ _ _ _ us hl => match us, hl with | [_], _ => rfl,
    f_need_bits := _, fd_need_bits := _, F_need_bits := fun_mk (st := s_need_bits) l_need_bits c_need_bits k_need_bits,
    g_need_bits := PySem.W.mg_of X G a_need_bits,
    b_need_bits := (fun_mk (st := s_need_bits) l_need_bits c_need_bits k_need_bits).binds (ps := ["word", "low", "many"]) fun _ _ _ _ _ _ us hl => match us, hl with | [_, _, _], _ => rfl,
    f_bits := _, fd_bits := _, F_bits := fun_mk (st := s_bits) l_bits c_bits k_bits,
    g_bits := PySem.W.mg_of X G a_bits,
    b_bits := (fun_mk (st := s_bits) l_bits c_bits k_bits).binds (ps := ["word", "low", "many"]) fun _ _ _ _ _ _ us hl => match us, hl with | [_, _, _], _ => rfl,
    mk_Memory := ⟨mk_Memory, a_Memory_init, i_Memory_init, kc_Memory⟩,
    f_Memory_init := _, fd_Memory_init := _, F_Memory_init := fun_mk (st := s_Memory_init) l_Memory_init c_Memory_init k_Memory_init,
    b_Memory_init := (fun_mk (st := s_Memory_init) l_Memory_init c_Memory_init k_Memory_init).binds (ps := ["self"]) fun _ _ _ _ _ _ us hl => match us, hl with | [_], _ => rfl,
    me_Memory_word := ⟨a_Memory_word, i_Memory_word, k_Memory_word⟩,
    f_Memory_word := _, fd_Memory_word := _, F_Memory_word := fun_mk (st := s_Memory_word) l_Memory_word c_Memory_word k_Memory_word,
    b_Memory_word := (fun_mk (st := s_Memory_word) l_Memory_word c_Memory_word k_Memory_word).binds (ps := ["self", "place"]) fun _ _ _ _ _ _ us hl => match us, hl with | [_, _], _ => rfl,
    me_Memory_put := ⟨a_Memory_put, i_Memory_put, k_Memory_put⟩,
    f_Memory_put := _, fd_Memory_put := _, F_Memory_put := fun_mk (st := s_Memory_put) l_Memory_put c_Memory_put k_Memory_put,
    b_Memory_put := (fun_mk (st := s_Memory_put) l_Memory_put c_Memory_put k_Memory_put).binds (ps := ["self", "place", "word"]) fun _ _ _ _ _ _ us hl => match us, hl with | [_, _, _], _ => rfl,
    me_Memory_copy := ⟨a_Memory_copy, i_Memory_copy, k_Memory_copy⟩,
    f_Memory_copy := _, fd_Memory_copy := _, F_Memory_copy := fun_mk (st := s_Memory_copy) l_Memory_copy c_Memory_copy k_Memory_copy,
    b_Memory_copy := (fun_mk (st := s_Memory_copy) l_Memory_copy c_Memory_copy k_Memory_copy).binds (ps := ["self"]) fun _ _ _ _ _ _ us hl => match us, hl with | [_], _ => rfl,
    me_Memory_eq := ⟨a_Memory_eq, i_Memory_eq, k_Memory_eq⟩,
    f_Memory_eq := _, fd_Memory_eq := _, F_Memory_eq := fun_mk (st := s_Memory_eq) l_Memory_eq c_Memory_eq k_Memory_eq,
    b_Memory_eq := (fun_mk (st := s_Memory_eq) l_Memory_eq c_Memory_eq k_Memory_eq).binds (ps := ["self", "other"]) fun _ _ _ _ _ _ us hl => match us, hl with | [_, _], _ => rfl,
    f_need_memory := _, fd_need_memory := _, F_need_memory := fun_mk (st := s_need_memory) l_need_memory c_need_memory k_need_memory,
    g_need_memory := PySem.W.mg_of X G a_need_memory,
    b_need_memory := (fun_mk (st := s_need_memory) l_need_memory c_need_memory k_need_memory).binds (ps := ["value"]) fun _ _ _ _ _ _ us hl => match us, hl with | [_], _ => rfl,
    f_is_memory_place := _, fd_is_memory_place := _, F_is_memory_place := fun_mk (st := s_is_memory_place) l_is_memory_place c_is_memory_place k_is_memory_place,
    g_is_memory_place := PySem.W.mg_of X G a_is_memory_place,
    b_is_memory_place := (fun_mk (st := s_is_memory_place) l_is_memory_place c_is_memory_place k_is_memory_place).binds (ps := ["value"]) fun _ _ _ _ _ _ us hl => match us, hl with | [_], _ => rfl,
    f_need_memory_place := _, fd_need_memory_place := _, F_need_memory_place := fun_mk (st := s_need_memory_place) l_need_memory_place c_need_memory_place k_need_memory_place,
    g_need_memory_place := PySem.W.mg_of X G a_need_memory_place,
    b_need_memory_place := (fun_mk (st := s_need_memory_place) l_need_memory_place c_need_memory_place k_need_memory_place).binds (ps := ["value"]) fun _ _ _ _ _ _ us hl => match us, hl with | [_], _ => rfl,
    f_need_frame := _, fd_need_frame := _, F_need_frame := fun_mk (st := s_need_frame) l_need_frame c_need_frame k_need_frame,
    g_need_frame := PySem.W.mg_of X G a_need_frame,
    b_need_frame := (fun_mk (st := s_need_frame) l_need_frame c_need_frame k_need_frame).binds (ps := ["value"]) fun _ _ _ _ _ _ us hl => match us, hl with | [_], _ => rfl,
    f_need_way := _, fd_need_way := _, F_need_way := fun_mk (st := s_need_way) l_need_way c_need_way k_need_way,
    g_need_way := PySem.W.mg_of X G a_need_way,
    b_need_way := (fun_mk (st := s_need_way) l_need_way c_need_way k_need_way).binds (ps := ["value"]) fun _ _ _ _ _ _ us hl => match us, hl with | [_], _ => rfl,
    f_need_side := _, fd_need_side := _, F_need_side := fun_mk (st := s_need_side) l_need_side c_need_side k_need_side,
    g_need_side := PySem.W.mg_of X G a_need_side,
    b_need_side := (fun_mk (st := s_need_side) l_need_side c_need_side k_need_side).binds (ps := ["value"]) fun _ _ _ _ _ _ us hl => match us, hl with | [_], _ => rfl,
    f_page_entry := _, fd_page_entry := _, F_page_entry := fun_mk (st := s_page_entry) l_page_entry c_page_entry k_page_entry,
    g_page_entry := PySem.W.mg_of X G a_page_entry,
    b_page_entry := (fun_mk (st := s_page_entry) l_page_entry c_page_entry k_page_entry).binds (ps := ["frame", "flags"]) fun _ _ _ _ _ _ us hl => match us, hl with | [_, _], _ => rfl,
    f_entry_parts := _, fd_entry_parts := _, F_entry_parts := fun_mk (st := s_entry_parts) l_entry_parts c_entry_parts k_entry_parts,
    g_entry_parts := PySem.W.mg_of X G a_entry_parts,
    b_entry_parts := (fun_mk (st := s_entry_parts) l_entry_parts c_entry_parts k_entry_parts).binds (ps := ["word"]) fun _ _ _ _ _ _ us hl => match us, hl with | [_], _ => rfl,
    f_by_entry := _, fd_by_entry := _, F_by_entry := fun_mk (st := s_by_entry) l_by_entry c_by_entry k_by_entry,
    g_by_entry := PySem.W.mg_of X G a_by_entry,
    b_by_entry := (fun_mk (st := s_by_entry) l_by_entry c_by_entry k_by_entry).binds (ps := ["word", "address", "way", "is_user"]) fun _ _ _ _ _ _ us hl => match us, hl with | [_, _, _, _], _ => rfl,
    f_translated := _, fd_translated := _, F_translated := fun_mk (st := s_translated) l_translated c_translated k_translated,
    g_translated := PySem.W.mg_of X G a_translated,
    b_translated := (fun_mk (st := s_translated) l_translated c_translated k_translated).binds (ps := ["memory", "root", "address", "way", "is_user"]) fun _ _ _ _ _ _ us hl => match us, hl with | [_, _, _, _, _], _ => rfl,
    kp_translated_0_43210 := kw_bindsP (fun_mk (st := s_translated) l_translated c_translated k_translated) (by decide) fun _ _ _ _ _ _ us ws h1 h2 => match us, ws, h1, h2 with | [], [_, _, _, _, _], _, _ => rfl,
    f_walked := _, fd_walked := _, F_walked := fun_mk (st := s_walked) l_walked c_walked k_walked,
    g_walked := PySem.W.mg_of X G a_walked,
    b_walked := (fun_mk (st := s_walked) l_walked c_walked k_walked).binds (ps := ["words", "root", "address", "way", "is_user"]) fun _ _ _ _ _ _ us hl => match us, hl with | [_, _, _, _, _], _ => rfl,
    f_straight := _, fd_straight := _, F_straight := fun_mk (st := s_straight) l_straight c_straight k_straight,
    g_straight := PySem.W.mg_of X G a_straight,
    b_straight := (fun_mk (st := s_straight) l_straight c_straight k_straight).binds (ps := ["address", "way"]) fun _ _ _ _ _ _ us hl => match us, hl with | [_, _], _ => rfl,
    f__is_frame := _, fd__is_frame := _, F__is_frame := fun_mk (st := s__is_frame) l__is_frame c__is_frame k__is_frame,
    g__is_frame := PySem.W.mg_of X G a__is_frame,
    b__is_frame := (fun_mk (st := s__is_frame) l__is_frame c__is_frame k__is_frame).binds (ps := ["value"]) fun _ _ _ _ _ _ us hl => match us, hl with | [_], _ => rfl,
    f__are_flags := _, fd__are_flags := _, F__are_flags := fun_mk (st := s__are_flags) l__are_flags c__are_flags k__are_flags,
    g__are_flags := PySem.W.mg_of X G a__are_flags,
    b__are_flags := (fun_mk (st := s__are_flags) l__are_flags c__are_flags k__are_flags).binds (ps := ["value"]) fun _ _ _ _ _ _ us hl => match us, hl with | [_], _ => rfl,
    f__lets := _, fd__lets := _, F__lets := fun_mk (st := s__lets) l__lets c__lets k__lets,
    g__lets := PySem.W.mg_of X G a__lets,
    b__lets := (fun_mk (st := s__lets) l__lets c__lets k__lets).binds (ps := ["flags", "way", "is_user"]) fun _ _ _ _ _ _ us hl => match us, hl with | [_, _, _], _ => rfl,
    f__entry_place := _, fd__entry_place := _, F__entry_place := fun_mk (st := s__entry_place) l__entry_place c__entry_place k__entry_place,
    g__entry_place := PySem.W.mg_of X G a__entry_place,
    b__entry_place := (fun_mk (st := s__entry_place) l__entry_place c__entry_place k__entry_place).binds (ps := ["frame", "number"]) fun _ _ _ _ _ _ us hl => match us, hl with | [_, _], _ => rfl,
    f_Lpot := _, fd_Lpot := _, F_Lpot := fun_mk (st := s_Lpot) l_Lpot c_Lpot k_Lpot,
    g_Lpot := PySem.W.mg_of X G a_Lpot,
    b_Lpot := (fun_mk (st := s_Lpot) l_Lpot c_Lpot k_Lpot).binds (ps := ["_law_script", "_law_k"]) fun _ _ _ _ _ _ us hl => match us, hl with | [_, _], _ => rfl,
    f_Ldraw := _, fd_Ldraw := _, F_Ldraw := fun_mk (st := s_Ldraw) l_Ldraw c_Ldraw k_Ldraw,
    g_Ldraw := PySem.W.mg_of X G a_Ldraw,
    b_Ldraw := (fun_mk (st := s_Ldraw) l_Ldraw c_Ldraw k_Ldraw).binds (ps := ["_law_pot_here", "_law_size"]) fun _ _ _ _ _ _ us hl => match us, hl with | [_, _], _ => rfl,
    f_Lpick := _, fd_Lpick := _, F_Lpick := fun_mk (st := s_Lpick) l_Lpick c_Lpick k_Lpick,
    g_Lpick := PySem.W.mg_of X G a_Lpick,
    b_Lpick := (fun_mk (st := s_Lpick) l_Lpick c_Lpick k_Lpick).binds (ps := ["_law_pot_here", "_law_some"]) fun _ _ _ _ _ _ us hl => match us, hl with | [_, _], _ => rfl,
    f_Lword := _, fd_Lword := _, F_Lword := fun_mk (st := s_Lword) l_Lword c_Lword k_Lword,
    g_Lword := PySem.W.mg_of X G a_Lword,
    b_Lword := (fun_mk (st := s_Lword) l_Lword c_Lword k_Lword).binds (ps := ["_law_rows_here", "_law_place"]) fun _ _ _ _ _ _ us hl => match us, hl with | [_, _], _ => rfl,
    f_Lcause := _, fd_Lcause := _, F_Lcause := fun_mk (st := s_Lcause) l_Lcause c_Lcause k_Lcause,
    g_Lcause := PySem.W.mg_of X G a_Lcause,
    b_Lcause := (fun_mk (st := s_Lcause) l_Lcause c_Lcause k_Lcause).binds (ps := ["_law_way"]) fun _ _ _ _ _ _ us hl => match us, hl with | [_], _ => rfl,
    f_Lsecond := _, fd_Lsecond := _, F_Lsecond := fun_mk (st := s_Lsecond) l_Lsecond c_Lsecond k_Lsecond,
    g_Lsecond := PySem.W.mg_of X G a_Lsecond,
    b_Lsecond := (fun_mk (st := s_Lsecond) l_Lsecond c_Lsecond k_Lsecond).binds (ps := ["_law_word_here", "_law_address", "_law_way", "_law_is_user"]) fun _ _ _ _ _ _ us hl => match us, hl with | [_, _, _, _], _ => rfl,
    f_Ltold := _, fd_Ltold := _, F_Ltold := fun_mk (st := s_Ltold) l_Ltold c_Ltold k_Ltold,
    g_Ltold := PySem.W.mg_of X G a_Ltold,
    b_Ltold := (fun_mk (st := s_Ltold) l_Ltold c_Ltold k_Ltold).binds (ps := ["_law_rows_here", "_law_root", "_law_address", "_law_way", "_law_is_user"]) fun _ _ _ _ _ _ us hl => match us, hl with | [_, _, _, _, _], _ => rfl,
    f_Lentry := _, fd_Lentry := _, F_Lentry := fun_mk (st := s_Lentry) l_Lentry c_Lentry k_Lentry,
    g_Lentry := PySem.W.mg_of X G a_Lentry,
    b_Lentry := (fun_mk (st := s_Lentry) l_Lentry c_Lentry k_Lentry).binds (ps := ["_law_pot_here", "_law_frame"]) fun _ _ _ _ _ _ us hl => match us, hl with | [_, _], _ => rfl,
    f_Lrows := _, fd_Lrows := _, F_Lrows := fun_mk (st := s_Lrows) l_Lrows c_Lrows k_Lrows,
    g_Lrows := PySem.W.mg_of X G a_Lrows,
    b_Lrows := (fun_mk (st := s_Lrows) l_Lrows c_Lrows k_Lrows).binds (ps := ["_law_pot_here", "_law_root"]) fun _ _ _ _ _ _ us hl => match us, hl with | [_, _], _ => rfl,
    f_Lone_right := _, fd_Lone_right := _, F_Lone_right := fun_mk (st := s_Lone_right) l_Lone_right c_Lone_right k_Lone_right,
    g_Lone_right := PySem.W.mg_of X G a_Lone_right,
    b_Lone_right := (fun_mk (st := s_Lone_right) l_Lone_right c_Lone_right k_Lone_right).binds (ps := ["_law_pot_here", "_law_memory", "_law_rows_here", "_law_root"]) fun _ _ _ _ _ _ us hl => match us, hl with | [_, _, _, _], _ => rfl,
    f_Lstraight_right := _, fd_Lstraight_right := _, F_Lstraight_right := fun_mk (st := s_Lstraight_right) l_Lstraight_right c_Lstraight_right k_Lstraight_right,
    g_Lstraight_right := PySem.W.mg_of X G a_Lstraight_right,
    b_Lstraight_right := (fun_mk (st := s_Lstraight_right) l_Lstraight_right c_Lstraight_right k_Lstraight_right).binds (ps := ["_law_pot_here"]) fun _ _ _ _ _ _ us hl => match us, hl with | [_], _ => rfl,
    f_Lright := _, fd_Lright := _, F_Lright := fun_mk (st := s_Lright) l_Lright c_Lright k_Lright,
    g_Lright := PySem.W.mg_of X G a_Lright,
    b_Lright := (fun_mk (st := s_Lright) l_Lright c_Lright k_Lright).binds (ps := ["_law_pot_here"]) fun _ _ _ _ _ _ us hl => match us, hl with | [_], _ => rfl,
    f_law := _, fd_law := _, F_law := fun_mk (st := s_law) l_law c_law k_law,
    g_law := PySem.W.mg_of X G a_law,
    b_law := (fun_mk (st := s_law) l_law c_law k_law).binds (ps := ["_law_script"]) fun _ _ _ _ _ _ us hl => match us, hl with | [_], _ => rfl,
    m_abs := PySem.W.mg_none_of X G z_abs,
    m_bool := PySem.W.mg_none_of X G z_bool,
    m_divmod := PySem.W.mg_none_of X G z_divmod,
    m_int := PySem.W.mg_none_of X G z_int,
    m_isinstance := PySem.W.mg_none_of X G z_isinstance,
    m_len := PySem.W.mg_none_of X G z_len,
    m_list := PySem.W.mg_none_of X G z_list,
    m_max := PySem.W.mg_none_of X G z_max,
    m_range := PySem.W.mg_none_of X G z_range,
    m_repr := PySem.W.mg_none_of X G z_repr,
    m_str := PySem.W.mg_none_of X G z_str,
    c_NO_CAUSE := ⟨_, PySem.W.mg_of X G x_NO_CAUSE⟩,
    c_NO_SUCH_PLACE := ⟨_, PySem.W.mg_of X G x_NO_SUCH_PLACE⟩,
    c__WORD_BITS := ⟨_, PySem.W.mg_of X G x__WORD_BITS⟩,
    c_WORDS := ⟨_, PySem.W.mg_of X G x_WORDS⟩,
    c_ADDRESSES := ⟨_, PySem.W.mg_of X G x_ADDRESSES⟩,
    c_PLACES := ⟨_, PySem.W.mg_of X G x_PLACES⟩,
    c_MEMORY_PLACES := ⟨_, PySem.W.mg_of X G x_MEMORY_PLACES⟩,
    c_PAGE_WORDS := ⟨_, PySem.W.mg_of X G x_PAGE_WORDS⟩,
    c__FRAMES := ⟨_, PySem.W.mg_of X G x__FRAMES⟩,
    c__FLAGS := ⟨_, PySem.W.mg_of X G x__FLAGS⟩,
    c__USERS_FLAG := ⟨_, PySem.W.mg_of X G x__USERS_FLAG⟩,
    c__WRITABLE_FLAG := ⟨_, PySem.W.mg_of X G x__WRITABLE_FLAG⟩,
    c__THERE_BIT := ⟨_, PySem.W.mg_of X G x__THERE_BIT⟩,
    c__FLAGS_BIT := ⟨_, PySem.W.mg_of X G x__FLAGS_BIT⟩,
    c__FLAGS_BITS := ⟨_, PySem.W.mg_of X G x__FLAGS_BITS⟩,
    c__FRAME_BITS := ⟨_, PySem.W.mg_of X G x__FRAME_BITS⟩,
    ic_Memory := ic_Memory,
    in_Memory := in_Memory,
    it_Memory := it_Memory,
    im_Memory := im_Memory,
    D_W := D_W,
    es_W := es_W,
    nn_W := nn_W,
    g_W := PySem.W.mg_of X G aW,
    k_W := ⟨lW, yW, sW⟩,
    w0_W := ⟨_, w0W⟩,
    w1_W := ⟨_, w1W⟩,
    w2_W := ⟨_, w2W⟩ }
  exact ⟨_, fun s v => .of_eq rfl, fun base _ _ => ok_law (P := l.prog) (w := w) (base := base) T⟩
theorem walk {l : PySem.W.OpenLaw} {q : Program} {loose : List Str} {XP : (Str → Option Value) → Heap → Prop} {YP : World → Heap → Prop} {d : DefRec} {K : Params → PySem.W.Frag} (hn : l.most = some 63) (hdf : d.params.defaults = [])
    (hY : ∀ (w : World) (h : Heap), YP w h → (K w.params).In h)
    (F : ∀ (w : World) (mg : Str → Option Value) (fa : Addr) (h : Heap), (K w.params).In h → h.Ns mainGlobals mg → mg d.name = some (.ref fa) →
      ∃ fd : FuncData, (∀ (s : Shared) (u : Value), BindsTo s fd ⟨[u], []⟩ [("_law_script", u)]) ∧ ∀ base : Heap, (K w.params).In base → base.Ns mainGlobals mg → FnG l.prog w (K w.params) mg base 13 fa fd ["_law_script"] (sp_law (K w.params))) :
    PySem.W.WalkO q loose XP YP l.row.toRowW d [] (fun f vs => PySem.call f vs) :=
  walk_ofG (n := 63) (k := 13) (x := "_law_script") (sp := fun w => sp_law (K w.params)) hn (by decide) hdf ⟨rfl, by decide, by decide⟩ hY F (fun _ _ a ns hl _ hS => ⟨a, ns, rfl, hS, hl, fun _ => rfl⟩)
end K36
open PySem PySem.W PyProof.Rows
set_option maxRecDepth 100000 in
set_option maxHeartbeats 0 in
theorem PySem.Challenge.cw_orderlycore_k36_whole_translations_holds : PySem.Challenge.rw_orderlycore_k36_whole_translations.Holds := by
  w_on; o_law; k_head; (case hw => w_witness2)
  k_fill
  refine K36.walk (l := PySem.Challenge.rw_orderlycore_k36_whole_translations) rfl rfl (fun w h Y => PySem.W.kIn_of Y) ?F
  case F =>
    intro w mg fa h KX G hmg
    refine' K36.all_mk KX G hmg ?aC_Memory ?pg_Memory ?hd_Memory ?po_Memory ?sa_Memory ?mk_Memory ?kc_Memory ?n_Memory_words ?a_is_integer ?l_is_integer ?c_is_integer ?k_is_integer ?a_is_between ?l_is_between ?c_is_between ?k_is_between ?a_is_word ?l_is_word ?c_is_word ?k_is_word ?a_is_address ?l_is_address ?c_is_address ?k_is_address ?a_is_place ?l_is_place ?c_is_place ?k_is_place ?a_need_word ?l_need_word ?c_need_word ?k_need_word ?a_need_address ?l_need_address ?c_need_address ?k_need_address ?a_need_bits ?l_need_bits ?c_need_bits ?k_need_bits ?a_bits ?l_bits ?c_bits ?k_bits ?a_Memory_init ?i_Memory_init ?l_Memory_init ?c_Memory_init ?k_Memory_init ?a_Memory_word ?i_Memory_word ?l_Memory_word ?c_Memory_word ?k_Memory_word ?a_Memory_put ?i_Memory_put ?l_Memory_put ?c_Memory_put ?k_Memory_put ?a_Memory_copy ?i_Memory_copy ?l_Memory_copy ?c_Memory_copy ?k_Memory_copy ?a_Memory_eq ?i_Memory_eq ?l_Memory_eq ?c_Memory_eq ?k_Memory_eq ?a_need_memory ?l_need_memory ?c_need_memory ?k_need_memory ?a_is_memory_place ?l_is_memory_place ?c_is_memory_place ?k_is_memory_place ?a_need_memory_place ?l_need_memory_place ?c_need_memory_place ?k_need_memory_place ?a_need_frame ?l_need_frame ?c_need_frame ?k_need_frame ?a_need_way ?l_need_way ?c_need_way ?k_need_way ?a_need_side ?l_need_side ?c_need_side ?k_need_side ?a_page_entry ?l_page_entry ?c_page_entry ?k_page_entry ?a_entry_parts ?l_entry_parts ?c_entry_parts ?k_entry_parts ?a_by_entry ?l_by_entry ?c_by_entry ?k_by_entry ?a_translated ?l_translated ?c_translated ?k_translated ?a_walked ?l_walked ?c_walked ?k_walked ?a_straight ?l_straight ?c_straight ?k_straight ?a__is_frame ?l__is_frame ?c__is_frame ?k__is_frame ?a__are_flags ?l__are_flags ?c__are_flags ?k__are_flags ?a__lets ?l__lets ?c__lets ?k__lets ?a__entry_place ?l__entry_place ?c__entry_place ?k__entry_place ?a_Lpot ?l_Lpot ?c_Lpot ?k_Lpot ?a_Ldraw ?l_Ldraw ?c_Ldraw ?k_Ldraw ?a_Lpick ?l_Lpick ?c_Lpick ?k_Lpick ?a_Lword ?l_Lword ?c_Lword ?k_Lword ?a_Lcause ?l_Lcause ?c_Lcause ?k_Lcause ?a_Lsecond ?l_Lsecond ?c_Lsecond ?k_Lsecond ?a_Ltold ?l_Ltold ?c_Ltold ?k_Ltold ?a_Lentry ?l_Lentry ?c_Lentry ?k_Lentry ?a_Lrows ?l_Lrows ?c_Lrows ?k_Lrows ?a_Lone_right ?l_Lone_right ?c_Lone_right ?k_Lone_right ?a_Lstraight_right ?l_Lstraight_right ?c_Lstraight_right ?k_Lstraight_right ?a_Lright ?l_Lright ?c_Lright ?k_Lright ?a_law ?l_law ?c_law ?k_law ?z_abs ?z_bool ?z_divmod ?z_int ?z_isinstance ?z_len ?z_list ?z_max ?z_range ?z_repr ?z_str ?x_NO_CAUSE ?x_NO_SUCH_PLACE ?x__WORD_BITS ?x_WORDS ?x_ADDRESSES ?x_PLACES ?x_MEMORY_PLACES ?x_PAGE_WORDS ?x__FRAMES ?x__FLAGS ?x__USERS_FLAG ?x__WRITABLE_FLAG ?x__THERE_BIT ?x__FLAGS_BIT ?x__FLAGS_BITS ?x__FRAME_BITS ?ic_Memory ?in_Memory ?it_Memory ?im_Memory ?aW ?lW ?yW ?sW ?w0W ?w1W ?w2W
    (case aC_Memory => k_is)
    (case pg_Memory => k_is)
    (case hd_Memory => k_is)
    (case po_Memory => k_is)
    (case sa_Memory => k_is)
    (case mk_Memory => k_is)
    (case kc_Memory => k_is)
    (case n_Memory_words => k_is)
    (case a_is_integer => k_is)
    (case l_is_integer => k_is)
    (case c_is_integer => k_is)
    (case k_is_integer => k_is)
    (case a_is_between => k_is)
    (case l_is_between => k_is)
    (case c_is_between => k_is)
    (case k_is_between => k_is)
    (case a_is_word => k_is)
    (case l_is_word => k_is)
    (case c_is_word => k_is)
    (case k_is_word => k_is)
    (case a_is_address => k_is)
    (case l_is_address => k_is)
    (case c_is_address => k_is)
    (case k_is_address => k_is)
    (case a_is_place => k_is)
    (case l_is_place => k_is)
    (case c_is_place => k_is)
    (case k_is_place => k_is)
    (case a_need_word => k_is)
    (case l_need_word => k_is)
    (case c_need_word => k_is)
    (case k_need_word => k_is)
    (case a_need_address => k_is)
    (case l_need_address => k_is)
    (case c_need_address => k_is)
    (case k_need_address => k_is)
    (case a_need_bits => k_is)
    (case l_need_bits => k_is)
    (case c_need_bits => k_is)
    (case k_need_bits => k_is)
    (case a_bits => k_is)
    (case l_bits => k_is)
    (case c_bits => k_is)
    (case k_bits => k_is)
    (case a_Memory_init => k_is)
    (case i_Memory_init => k_is)
    (case l_Memory_init => k_is)
    (case c_Memory_init => k_is)
    (case k_Memory_init => k_is)
    (case a_Memory_word => k_is)
    (case i_Memory_word => k_is)
    (case l_Memory_word => k_is)
    (case c_Memory_word => k_is)
    (case k_Memory_word => k_is)
    (case a_Memory_put => k_is)
    (case i_Memory_put => k_is)
    (case l_Memory_put => k_is)
    (case c_Memory_put => k_is)
    (case k_Memory_put => k_is)
    (case a_Memory_copy => k_is)
    (case i_Memory_copy => k_is)
    (case l_Memory_copy => k_is)
    (case c_Memory_copy => k_is)
    (case k_Memory_copy => k_is)
    (case a_Memory_eq => k_is)
    (case i_Memory_eq => k_is)
    (case l_Memory_eq => k_is)
    (case c_Memory_eq => k_is)
    (case k_Memory_eq => k_is)
    (case a_need_memory => k_is)
    (case l_need_memory => k_is)
    (case c_need_memory => k_is)
    (case k_need_memory => k_is)
    (case a_is_memory_place => k_is)
    (case l_is_memory_place => k_is)
    (case c_is_memory_place => k_is)
    (case k_is_memory_place => k_is)
    (case a_need_memory_place => k_is)
    (case l_need_memory_place => k_is)
    (case c_need_memory_place => k_is)
    (case k_need_memory_place => k_is)
    (case a_need_frame => k_is)
    (case l_need_frame => k_is)
    (case c_need_frame => k_is)
    (case k_need_frame => k_is)
    (case a_need_way => k_is)
    (case l_need_way => k_is)
    (case c_need_way => k_is)
    (case k_need_way => k_is)
    (case a_need_side => k_is)
    (case l_need_side => k_is)
    (case c_need_side => k_is)
    (case k_need_side => k_is)
    (case a_page_entry => k_is)
    (case l_page_entry => k_is)
    (case c_page_entry => k_is)
    (case k_page_entry => k_is)
    (case a_entry_parts => k_is)
    (case l_entry_parts => k_is)
    (case c_entry_parts => k_is)
    (case k_entry_parts => k_is)
    (case a_by_entry => k_is)
    (case l_by_entry => k_is)
    (case c_by_entry => k_is)
    (case k_by_entry => k_is)
    (case a_translated => k_is)
    (case l_translated => k_is)
    (case c_translated => k_is)
    (case k_translated => k_is)
    (case a_walked => k_is)
    (case l_walked => k_is)
    (case c_walked => k_is)
    (case k_walked => k_is)
    (case a_straight => k_is)
    (case l_straight => k_is)
    (case c_straight => k_is)
    (case k_straight => k_is)
    (case a__is_frame => k_is)
    (case l__is_frame => k_is)
    (case c__is_frame => k_is)
    (case k__is_frame => k_is)
    (case a__are_flags => k_is)
    (case l__are_flags => k_is)
    (case c__are_flags => k_is)
    (case k__are_flags => k_is)
    (case a__lets => k_is)
    (case l__lets => k_is)
    (case c__lets => k_is)
    (case k__lets => k_is)
    (case a__entry_place => k_is)
    (case l__entry_place => k_is)
    (case c__entry_place => k_is)
    (case k__entry_place => k_is)
    (case a_Lpot => k_is)
    (case l_Lpot => k_is)
    (case c_Lpot => k_is)
    (case k_Lpot => k_is)
    (case a_Ldraw => k_is)
    (case l_Ldraw => k_is)
    (case c_Ldraw => k_is)
    (case k_Ldraw => k_is)
    (case a_Lpick => k_is)
    (case l_Lpick => k_is)
    (case c_Lpick => k_is)
    (case k_Lpick => k_is)
    (case a_Lword => k_is)
    (case l_Lword => k_is)
    (case c_Lword => k_is)
    (case k_Lword => k_is)
    (case a_Lcause => k_is)
    (case l_Lcause => k_is)
    (case c_Lcause => k_is)
    (case k_Lcause => k_is)
    (case a_Lsecond => k_is)
    (case l_Lsecond => k_is)
    (case c_Lsecond => k_is)
    (case k_Lsecond => k_is)
    (case a_Ltold => k_is)
    (case l_Ltold => k_is)
    (case c_Ltold => k_is)
    (case k_Ltold => k_is)
    (case a_Lentry => k_is)
    (case l_Lentry => k_is)
    (case c_Lentry => k_is)
    (case k_Lentry => k_is)
    (case a_Lrows => k_is)
    (case l_Lrows => k_is)
    (case c_Lrows => k_is)
    (case k_Lrows => k_is)
    (case a_Lone_right => k_is)
    (case l_Lone_right => k_is)
    (case c_Lone_right => k_is)
    (case k_Lone_right => k_is)
    (case a_Lstraight_right => k_is)
    (case l_Lstraight_right => k_is)
    (case c_Lstraight_right => k_is)
    (case k_Lstraight_right => k_is)
    (case a_Lright => k_is)
    (case l_Lright => k_is)
    (case c_Lright => k_is)
    (case k_Lright => k_is)
    (case a_law => k_is)
    (case l_law => k_is)
    (case c_law => k_is)
    (case k_law => k_is)
    (case z_abs => k_is)
    (case z_bool => k_is)
    (case z_divmod => k_is)
    (case z_int => k_is)
    (case z_isinstance => k_is)
    (case z_len => k_is)
    (case z_list => k_is)
    (case z_max => k_is)
    (case z_range => k_is)
    (case z_repr => k_is)
    (case z_str => k_is)
    (case x_NO_CAUSE => k_is)
    (case x_NO_SUCH_PLACE => k_is)
    (case x__WORD_BITS => k_is)
    (case x_WORDS => k_is)
    (case x_ADDRESSES => k_is)
    (case x_PLACES => k_is)
    (case x_MEMORY_PLACES => k_is)
    (case x_PAGE_WORDS => k_is)
    (case x__FRAMES => k_is)
    (case x__FLAGS => k_is)
    (case x__USERS_FLAG => k_is)
    (case x__WRITABLE_FLAG => k_is)
    (case x__THERE_BIT => k_is)
    (case x__FLAGS_BIT => k_is)
    (case x__FLAGS_BITS => k_is)
    (case x__FRAME_BITS => k_is)
    (case ic_Memory => k_is)
    (case in_Memory => k_is)
    (case it_Memory => k_is)
    (case im_Memory => k_is)
    (case aW => k_is)
    (case lW => k_is)
    (case yW => first | exact ⟨⟨_, _, rfl, rfl⟩, ⟨_, _, rfl, rfl⟩, ⟨_, _, rfl, rfl⟩, trivial⟩ | (refine ⟨⟨_, _, rfl, ?_⟩, ⟨_, _, rfl, ?_⟩, ⟨_, _, rfl, ?_⟩, trivial⟩ <;> rfl))
    (case sW => first | rfl | decide)
    (case w0W => k_is)
    (case w1W => k_is)
    (case w2W => k_is)

