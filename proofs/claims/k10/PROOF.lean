import PyProof.Rows.All
import Wide.All
import OpenK.AllK
import Wide.FinOn
import HandS.ForMost
import HandS.ForExc
import HandS.IsInst
import HandS.TupAny
import HandS.TupMul
import HandS.Style
import HandS.ExcInit
import HandS.TryMany
import HandS.ExcField
import HandS.CallLocal
import HandS.More
import HandS.Steps
import PyProof.MaxThree
import HandS.Rev
import HandS.Zip
import KE.GoesEnum
import HandS.Iter
import HandS.Comp
import HandS.RevRange
import HandS.Conv
import HandS.DictComp
import KE.KIndexOf
import HandS.SetKeys
import PySem.Challenge.RW_hillrooms_k10_branchwise_and_first_order
set_option Elab.async false
set_option linter.all false
set_option maxRecDepth 100000
set_option maxHeartbeats 4000000
/-! ### Kit -/
namespace Mine
open PySem PySem.Spec L2

/-! ## heaps -/
/-- what stood stands, but at a -/
def SB (a : Addr) (H H' : Hp) : Prop := ∀ b o, b ≠ a → H b = some o → H' b = some o
/-- what was a tuple is one -/
def Ext (K : PySem.W.Frag) (H H' : Hp) : Prop := ∀ a xs, SqT K H a xs → SqT K H' a xs
theorem SB.refl {a : Addr} {H : Hp} : SB a H H := fun _ _ _ h => h
theorem SB.trans {a : Addr} {H H1 H2 : Hp} (x : SB a H H1) (y : SB a H1 H2) : SB a H H2 := fun b o n h => y b o n (x b o n h)
theorem SB.of_same {a : Addr} {H H' : Hp} (s : Same H H') : SB a H H' := fun b o _ h => s b o h
theorem SB.upd {a : Addr} {H : Hp} {o : HO} : SB a H (upd H a o) := fun b u n h => by rw [upd_ne n]; exact h
theorem SB.new {a p : Addr} {H H' : Hp} {o : HO} (s : SB a H H') (hp : H' p = none) : SB a H (L2.upd H' p o) := fun b u n h => by
  have q := s b u n h
  rw [upd_ne (ne_of_none q hp)]; exact q
theorem SB.set {a : Addr} {H H' : Hp} {o : HO} (s : SB a H H') : SB a H (L2.upd H' a o) := fun b u n h => by
  rw [upd_ne n]; exact s b u n h
theorem Same.new {p : Addr} {H H' : Hp} {o : HO} (s : Same H H') (hp : H' p = none) : Same H (L2.upd H' p o) := fun b u h => by
  have q := s b u h
  rw [upd_ne (ne_of_none q hp)]; exact q
theorem same_new {H : Hp} {p : Addr} (h : H p = none) (o : HO) : Same H (upd H p o) := fun b u q => by rw [upd_ne (ne_of_none q h)]; exact q
theorem Ext.refl {K : PySem.W.Frag} {H : Hp} : Ext K H H := fun _ _ h => h
theorem Ext.trans {K : PySem.W.Frag} {H H1 H2 : Hp} (x : Ext K H H1) (y : Ext K H1 H2) : Ext K H H2 := fun a xs h => y a xs (x a xs h)
theorem Ext.of_same {K : PySem.W.Frag} {H H' : Hp} (s : Same H H') : Ext K H H' := fun a xs h => by
  rcases h with (h | ⟨o, h⟩) | h
  · exact .inl (.inl (s _ _ h))
  · exact .inl (.inr ⟨o, s _ _ h⟩)
  · exact .inr h
/-- an object that is no tuple is no known tuple -/
def noTup : HO → Prop
  | .tup _ => False
  | .frz _ _ => False
  | _ => True
theorem Ext.of_SB {K : PySem.W.Frag} {a : Addr} {H H' : Hp} {o : HO} (s : SB a H H') (h : H a = some o) (hn : noTup o) : Ext K H H' := fun b xs q => by
  rcases q with (q | ⟨u, q⟩) | q
  · have ne : b ≠ a := fun e => by subst e; rw [h] at q; cases q; exact hn
    exact .inl (.inl (s _ _ ne q))
  · have ne : b ≠ a := fun e => by subst e; rw [h] at q; cases q; exact hn
    exact .inl (.inr ⟨u, s _ _ ne q⟩)
  · exact .inr q
theorem Ext.set {K : PySem.W.Frag} {a : Addr} {H : Hp} {o u : HO} (h : H a = some o) (hn : noTup o) : Ext K H (upd H a u) := Ext.of_SB SB.upd h hn
theorem Ext.new {K : PySem.W.Frag} {p : Addr} {H : Hp} {o : HO} (h : H p = none) : Ext K H (upd H p o) := Ext.of_same (same_new h o)

/-! ## data without lists -/
mutual
inductive Rp (K : PySem.W.Frag) (H : Hp) : V → PyData → Prop
  | non : Rp K H .non .none
  | bl (b : Bool) : Rp K H (.bl b) (.bool b)
  | int (i : Int) : Rp K H (.int i) (.int i)
  | str (x : Str) : Rp K H (.str x) (.str x)
  | tup {a : Addr} {xs : List V} {ds : List PyData} : SqT K H a xs → Rps K H xs ds → Rp K H (.ref a) (.tuple ds)
inductive Rps (K : PySem.W.Frag) (H : Hp) : List V → List PyData → Prop
  | nil : Rps K H [] []
  | cons {v : V} {vs : List V} {d : PyData} {ds : List PyData} : Rp K H v d → Rps K H vs ds → Rps K H (v :: vs) (d :: ds)
end
mutual
theorem Rp.mono {K : PySem.W.Frag} {H H' : Hp} (e : Ext K H H') : ∀ (d : PyData) (v : V), Rp K H v d → Rp K H' v d
  | .none, _, h => by cases h; exact .non
  | .bool b, _, h => by cases h; exact .bl b
  | .int i, _, h => by cases h; exact .int i
  | .str x, _, h => by cases h; exact .str x
  | .tuple ds, _, h => by
    cases h with
    | tup hs hr => exact .tup (e _ _ hs) (Rps.mono e ds _ hr)
  | .list _, _, h => nomatch h
  | .dict _, _, h => nomatch h
theorem Rps.mono {K : PySem.W.Frag} {H H' : Hp} (e : Ext K H H') : ∀ (ds : List PyData) (vs : List V), Rps K H vs ds → Rps K H' vs ds
  | [], _, h => by cases h; exact .nil
  | d :: ds, _, h => by
    cases h with
    | cons h1 h2 => exact .cons (Rp.mono e d _ h1) (Rps.mono e ds _ h2)
end
mutual
theorem Rp.dp {K : PySem.W.Frag} {H : Hp} : ∀ (d : PyData) (v : V), Rp K H v d → Dp K H v d
  | .none, _, h => by cases h; exact .non
  | .bool b, _, h => by cases h; exact .bl b
  | .int i, _, h => by cases h; exact .int i
  | .str x, _, h => by cases h; exact .str x
  | .tuple ds, _, h => by
    cases h with
    | tup hs hr => exact .tup hs (Rps.dp ds _ hr)
  | .list _, _, h => nomatch h
  | .dict _, _, h => nomatch h
theorem Rps.dp {K : PySem.W.Frag} {H : Hp} : ∀ (ds : List PyData) (vs : List V), Rps K H vs ds → DpAll K H vs ds
  | [], _, h => by cases h; exact .nil
  | d :: ds, _, h => by
    cases h with
    | cons h1 h2 => exact .cons (Rp.dp d _ h1) (Rps.dp ds _ h2)
end
theorem Rps.length {K : PySem.W.Frag} {H : Hp} : ∀ {vs : List V} {ds : List PyData}, Rps K H vs ds → vs.length = ds.length
  | _, _, .nil => rfl
  | _, _, .cons _ t => by rw [List.length_cons, List.length_cons, Rps.length t]
theorem Rps.get {K : PySem.W.Frag} {H : Hp} : ∀ {vs : List V} {ds : List PyData} {i : Nat} {d : PyData}, Rps K H vs ds → ds[i]? = some d → ∃ v, vs[i]? = some v ∧ Rp K H v d
  | _, _, _, _, .nil, e => by simp at e
  | _, _, 0, d, .cons h _, e => by simp at e; subst e; exact ⟨_, rfl, h⟩
  | _, _, i + 1, d, .cons _ t, e => by
    obtain ⟨v, h1, h2⟩ := Rps.get (i := i) (d := d) t (by simpa using e)
    exact ⟨v, by simpa using h1, h2⟩
theorem Rps.getV {K : PySem.W.Frag} {H : Hp} : ∀ {vs : List V} {ds : List PyData} {i : Nat} {v : V}, Rps K H vs ds → vs[i]? = some v → ∃ d, ds[i]? = some d ∧ Rp K H v d
  | _, _, _, _, .nil, e => by simp at e
  | _, _, 0, d, .cons h _, e => by simp at e; subst e; exact ⟨_, rfl, h⟩
  | _, _, i + 1, v, .cons _ t, e => by
    obtain ⟨d, h1, h2⟩ := Rps.getV (i := i) (v := v) t (by simpa using e)
    exact ⟨d, by simpa using h1, h2⟩
theorem Rps.append {K : PySem.W.Frag} {H : Hp} : ∀ {vs ws : List V} {ds es : List PyData}, Rps K H vs ds → Rps K H ws es → Rps K H (vs ++ ws) (ds ++ es)
  | _, _, _, _, .nil, s => s
  | _, _, _, _, .cons r t, s => .cons r (Rps.append t s)
theorem Rps.one {K : PySem.W.Frag} {H : Hp} {v : V} {d : PyData} (h : Rp K H v d) : Rps K H [v] [d] := .cons h .nil
theorem Rps.reverse {K : PySem.W.Frag} {H : Hp} : ∀ {vs : List V} {ds : List PyData}, Rps K H vs ds → Rps K H vs.reverse ds.reverse
  | _, _, .nil => .nil
  | _, _, .cons r t => by
    rw [List.reverse_cons, List.reverse_cons]
    exact (Rps.reverse t).append (.one r)
theorem Rps.dropLast {K : PySem.W.Frag} {H : Hp} : ∀ {vs : List V} {ds : List PyData}, Rps K H vs ds → Rps K H vs.dropLast ds.dropLast
  | _, _, .nil => .nil
  | _, _, .cons r .nil => .nil
  | _, _, .cons r (.cons r2 t) => .cons r (Rps.dropLast (.cons r2 t))
theorem Rps.drop {K : PySem.W.Frag} {H : Hp} : ∀ (n : Nat) {vs : List V} {ds : List PyData}, Rps K H vs ds → Rps K H (vs.drop n) (ds.drop n)
  | 0, _, _, r => r
  | _ + 1, _, _, .nil => .nil
  | n + 1, _, _, .cons _ t => Rps.drop n t
theorem Rps.take {K : PySem.W.Frag} {H : Hp} : ∀ (n : Nat) {vs : List V} {ds : List PyData}, Rps K H vs ds → Rps K H (vs.take n) (ds.take n)
  | 0, _, _, _ => .nil
  | _ + 1, _, _, .nil => .nil
  | n + 1, _, _, .cons r t => .cons r (Rps.take n t)
theorem Rps.ints {K : PySem.W.Frag} {H : Hp} : ∀ (ns : List Int), Rps K H (ns.map V.int) (ns.map PyData.int)
  | [] => .nil
  | n :: r => .cons (.int n) (Rps.ints r)

/-! ## readings, one step each -/
section
variable {σ : St} {H : Hp} {Q : VK} {D : Ends} {ta tb tc te : TE} {t u : TS} {tt tt' : TT} {i : Nat} {K : PySem.W.Frag}
theorem rd_var {v : V} (e : σ[i]? = some (some v)) (h : Q v H) : tVar i σ H Q := ⟨v, e, h⟩
theorem rd_c {v : V} (h : Q v H) : tC v σ H Q := h
theorem rd_seq {n bk ct : St → Hp → Prop} {rt : VK} (h : t ⟨u ⟨n, rt, bk, ct⟩, rt, bk, ct⟩ σ H) : tSeq t u ⟨n, rt, bk, ct⟩ σ H := h
theorem rd_next {n bk ct : St → Hp → Prop} {rt : VK} (h : n σ H) : tNext ⟨n, rt, bk, ct⟩ σ H := h
theorem rd_brk {n bk ct : St → Hp → Prop} {rt : VK} (h : bk σ H) : tBreak ⟨n, rt, bk, ct⟩ σ H := h
theorem rd_ct {n bk ct : St → Hp → Prop} {rt : VK} (h : ct σ H) : tCont ⟨n, rt, bk, ct⟩ σ H := h
theorem rd_ret {n bk ct : St → Hp → Prop} {rt : VK} (h : te σ H rt) : tRet te ⟨n, rt, bk, ct⟩ σ H := h
theorem rd_retN {n bk ct : St → Hp → Prop} {rt : VK} (h : rt .non H) : tRetN ⟨n, rt, bk, ct⟩ σ H := h
theorem rd_asg {g : TG} {n bk ct : St → Hp → Prop} {rt : VK} (h : te σ H fun x H1 => g x σ H1 n) : tAsg te g ⟨n, rt, bk, ct⟩ σ H := h
theorem rd_drop {n bk ct : St → Hp → Prop} {rt : VK} (h : te σ H fun _ H1 => n σ H1) : tDrop te ⟨n, rt, bk, ct⟩ σ H := h
theorem rd_gname {v : V} {R : St → Hp → Prop} (h : R (σ.set i (some v)) H) : gName i v σ H R := h
theorem rd_par {i j : Nat} {ta : TA} {n bk ct : St → Hp → Prop} {rt : VK} (h : ta σ H fun vs H1 => ∃ v w, vs = [v, w] ∧ n ((σ.set i (some v)).set j (some w)) H1) : tPar i j ta ⟨n, rt, bk, ct⟩ σ H := h
theorem rd_par3 {i j l : Nat} {ta : TA} {n bk ct : St → Hp → Prop} {rt : VK} (h : ta σ H fun vs H1 => ∃ u v w, vs = [u, v, w] ∧ n (((σ.set i (some u)).set j (some v)).set l (some w)) H1) : tPar3 i j l ta ⟨n, rt, bk, ct⟩ σ H := h
theorem rd_par3_end {i j l : Nat} {u v w : V} {N : St → Hp → Prop} (h : N (((σ.set i (some u)).set j (some v)).set l (some w)) H) : ∃ u' v' w', [u, v, w] = [u', v', w'] ∧ N (((σ.set i (some u')).set j (some v')).set l (some w')) H := ⟨u, v, w, rfl, h⟩
theorem rd_split {p A B : Prop} [Decidable p] (h1 : p → A) (h2 : ¬ p → B) : if decide p = true then A else B := by
  by_cases c : p
  · rw [decide_eq_true c, if_pos rfl]; exact h1 c
  · rw [decide_eq_false c, if_neg Bool.false_ne_true]; exact h2 c
theorem rd_splitN {p A B : Prop} [Decidable p] (h1 : ¬ p → A) (h2 : p → B) : if (!decide p) = true then A else B := by
  by_cases c : p
  · rw [decide_eq_true c]; exact h2 c
  · rw [decide_eq_false c]; exact h1 c
theorem rd_splitB {b : Bool} {A B : Prop} (h1 : b = true → A) (h2 : b = false → B) : if b = true then A else B := by
  cases b with
  | true => exact h1 rfl
  | false => exact h2 rfl
theorem rd_aug {te : TE} {ti : TIp} {n bk ct : St → Hp → Prop} {rt : VK} {x : V} (e : σ[i]? = some (some x)) (h : te σ H fun y H1 => ti x y H1 fun z H2 => n (σ.set i (some z)) H2) : tAug i te ti ⟨n, rt, bk, ct⟩ σ H := ⟨x, e, h⟩
theorem rd_ipI {f : Int → Int → Int} {x y : Int} (h : Q (.int (f x y)) H) : ipI f (.int x) (.int y) H Q := ⟨x, y, rfl, rfl, h⟩
theorem rd_par_end {i j : Nat} {v w : V} {N : St → Hp → Prop} (h : N ((σ.set i (some v)).set j (some w)) H) : ∃ v' w', [v, w] = [v', w'] ∧ N ((σ.set i (some v')).set j (some w')) H := ⟨v, w, rfl, h⟩
theorem rd_if (h : tt σ H fun b H1 => if b = true then t D σ H1 else u D σ H1) : tIfS tt t u D σ H := h
theorem rd_ife (h : tt σ H fun b H1 => if b = true then ta σ H1 Q else tb σ H1 Q) : tIf tt ta tb σ H Q := h
theorem rd_op {r : R2} (h : ta σ H fun x H1 => tb σ H1 fun y H2 => r x y H2 Q) : tOp r ta tb σ H Q := h
theorem rd_un {r : V → Hp → VK → Prop} (h : ta σ H fun x H1 => r x H1 Q) : tUn r ta σ H Q := h
theorem rd_nil {R : List V → Hp → Prop} (h : R [] H) : tNil σ H R := h
theorem rd_cons {tr : TA} {R : List V → Hp → Prop} (h : ta σ H fun x H1 => tr σ H1 fun xs H2 => R (x :: xs) H2) : tCons ta tr σ H R := h
theorem rd_tup {a : TA} (h : a σ H fun xs H1 => xs.length ≤ sizeLine ∧ ∀ p, H1 p = none → Q (.ref p) (upd H1 p (.tup xs))) : tTup a σ H Q := h
theorem rd_lst {a : TA} (h : a σ H fun xs H1 => xs.length ≤ sizeLine ∧ ∀ p, H1 p = none → Q (.ref p) (upd H1 p (.lst xs))) : tLst a σ H Q := h
theorem rd_call {sp : Sp} {E : XK} {a : TA} (h : a σ H fun vs H1 => sp vs H1 Q E) : tCall sp [] E a σ H Q := by
  show a σ H fun vs H1 => sp (vs ++ []) H1 Q E
  have e : (fun vs H1 => sp (vs ++ []) H1 Q E) = fun vs H1 => sp vs H1 Q E := by
    funext vs H1; rw [List.append_nil]
  rw [e]; exact h
theorem rd_cb {r : List V → Hp → VK → Prop} {a : TA} (h : a σ H fun vs H1 => r vs H1 Q) : tCB r a σ H Q := h
theorem rd_test {R : Bool → Hp → Prop} (h : te σ H fun x H' => ∃ k, x = .bl k ∧ R k H') : tTest te σ H R := h
theorem rd_tB {R : Bool → Hp → Prop} (h : te σ H fun x H' => ∃ k, x = .bl k ∧ R k H') : tB te σ H R := h
theorem rd_bl {k : Bool} {R : Bool → Prop} (h : R k) : ∃ k', V.bl k = .bl k' ∧ R k' := ⟨k, rfl, h⟩
theorem rd_and {R : Bool → Hp → Prop} (h : tt σ H fun c H1 => if c = true then tt' σ H1 R else R false H1) : tAnd tt tt' σ H R := h
theorem rd_or {R : Bool → Hp → Prop} (h : tt σ H fun c H1 => if c = true then R true H1 else tt' σ H1 R) : tOr tt tt' σ H R := h
theorem rd_not {R : Bool → Hp → Prop} (h : tt σ H fun c H1 => R (!c) H1) : tNot tt σ H R := h
theorem rd_andV (h : ta σ H fun x H1 => ∃ c, x = .bl c ∧ if c = true then tb σ H1 Q else Q (.bl false) H1) : tAndV ta tb σ H Q := h
theorem rd_orV (h : ta σ H fun x H1 => ∃ c, x = .bl c ∧ if c = true then Q (.bl true) H1 else tb σ H1 Q) : tOrV ta tb σ H Q := h
theorem rd_notV (h : ta σ H fun x H1 => ∃ c, x = .bl c ∧ Q (.bl (!c)) H1) : tNotV ta σ H Q := h
theorem rd_chain {r r' : R2} (h : ta σ H fun x H1 => tb σ H1 fun y H2 => r x y H2 fun z H3 => ∃ k, z = .bl k ∧ if k = true then tc σ H3 fun w H4 => r' y w H4 Q else Q (.bl false) H3) : tChain r r' ta tb tc σ H Q := h
end
end Mine

/-! ### Kit2 -/
namespace Mine
open PySem PySem.Spec L2

/-! ## defs of the text, and their promises -/
def HasF (P : Program) (w : World) (K : PySem.W.Frag) (mg : Str → Option Value) (base : Heap) (CX : CXT) (k : Nat) (x : Str) (ps : List Str) (sp : Sp) : Prop :=
  ∃ (f : Addr) (fd : FuncData), FnOk P w K mg base CX k f fd ps sp ∧ mg x = some (.ref f) ∧ PySem.W.keepIn K (.ref f) = true ∧ Binds K fd ps []
def OwnF (K : PySem.W.Frag) (mg : Str → Option Value) (x : Str) (st : Stmt) : Prop := ∃ (f : Addr) (fd : FuncData), Fun K x x st f fd ∧ mg x = some (.ref f)
section
variable {P : Program} {w : World} {K : PySem.W.Frag} {mg : Str → Option Value} {base : Heap} {CX : CXT}
theorem HasF.mono {j k : Nat} {x : Str} {ps : List Str} {sp : Sp} (h : HasF P w K mg base CX j x ps sp) (l : j ≤ k) : HasF P w K mg base CX k x ps sp := by
  obtain ⟨f, fd, F, m, kp, b⟩ := h
  exact ⟨f, fd, F.mono l, m, kp, b⟩
theorem HasF.imp {k : Nat} {x : Str} {ps : List Str} {sp sp' : Sp} (h : HasF P w K mg base CX k x ps sp) (i : ∀ vs H Q E, sp' vs H Q E → sp vs H Q E) : HasF P w K mg base CX k x ps sp' := by
  obtain ⟨f, fd, F, m, kp, b⟩ := h
  exact ⟨f, fd, F.imp i, m, kp, b⟩
/-- a def that lets nothing out -/
theorem has0 {x : Str} {st : Stmt} {N ps : List Str} {k : Nat} {sp : Sp} (O : OwnF K mg x st) (S : FnScope N ps (defScope st))
    (hb : ∀ (kV doc pm : Value) (an : Option Addr) (cdv ct : Value) (us : List Value), us.length = ps.length → bindArgs (PySem.W.fnOf x x (defArgs st) (defBody st) (defScope st) .none kV doc pm an cdv ct) ⟨us, []⟩ = pure (ps.zip us))
    (len : ∀ vs H Q E, sp vs H Q E → vs.length = ps.length)
    (body : ∀ (f : Addr) (cdv : Value) (A : Around) (outer : List Env) (s : Shared) (H : Hp) (vs : List V) (Q : VK) (E : XK), Room k (A.deeper (PyProof.Rows.envOfC x (defScope st) s.heap.objs.size f cdv)) → sp vs H Q E →
      ∃ t, PSs (cxOf CX0 P w K mg base N x (defScope st) f cdv A outer s H E).nox (defBody st) t ∧ t { nx := fun _ H' => Q .non H', rt := Q } (start N vs) H) :
    HasF P w K mg base CX0 (k + 1) x ps sp := by
  obtain ⟨f, fd, F, m⟩ := O
  exact ⟨f, fd, F.ok S len (fun cdv A outer s H vs Q E hr h => body f cdv A outer s H vs Q E hr h), m, F.kp, F.binds hb⟩
/-- a def that may raise -/
theorem hasX {x : Str} {st : Stmt} {N ps : List Str} {k : Nat} {sp : Sp} (O : OwnF K mg x st) (S : FnScope N ps (defScope st))
    (hb : ∀ (kV doc pm : Value) (an : Option Addr) (cdv ct : Value) (us : List Value), us.length = ps.length → bindArgs (PySem.W.fnOf x x (defArgs st) (defBody st) (defScope st) .none kV doc pm an cdv ct) ⟨us, []⟩ = pure (ps.zip us))
    (len : ∀ vs H Q E, sp vs H Q E → vs.length = ps.length)
    (body : ∀ (f : Addr) (cdv : Value) (A : Around) (outer : List Env) (s : Shared) (H : Hp) (vs : List V) (Q : VK) (E : XK), Room k (A.deeper (PyProof.Rows.envOfC x (defScope st) s.heap.objs.size f cdv)) → sp vs H Q E →
      ∃ t, PSs (cxOf (L2.CX P w) P w K mg base N x (defScope st) f cdv A outer s H E) (defBody st) t ∧ t { nx := fun _ H' => Q .non H', rt := Q } (start N vs) H) :
    HasF P w K mg base (L2.CX P w) (k + 1) x ps sp := by
  obtain ⟨f, fd, F, m⟩ := O
  exact ⟨f, fd, F.okX S len (fun cdv A outer s H vs Q E hr h => body f cdv A outer s H vs Q E hr h), m, F.kp, F.binds hb⟩
end
section
variable {X : Cx} {CX : CXT} {k : Nat} {ps : List Str} {sp : Sp} {E : XK} {x : Str} {p pos : Pos} {e : Expr} {es : List Expr} {t : TA}
theorem pe_callH (h : HasF X.prog X.w X.K X.mg X.base CX k x ps sp) (hr : Room k X.A) (hg : Gl X x) (hx : Passes CX X E) (ha : PA X (e :: es) t)
    (hdb : (x == ("__debug__" : Str)) = false := by decide) (he : starEach (e :: es) X.env = (false, eval e X.env) :: starEach es X.env := by rfl) (hpl : (backTo pos (starEach es X.env)).any (·.1) = false := by rfl) :
    PE X (.Call (.Name x p) (e :: es) [] pos) (tCall sp [] E t) := by
  obtain ⟨f, fd, F, m, kp, b⟩ := h
  exact pe_call F hr hg m kp b .nil hx ha hdb he hpl
/-- within a try, or where a raise leaves -/
theorem pe_callHS {E : St → XK} (h : HasF X.prog X.w X.K X.mg X.base CX k x ps sp) (hr : Room k X.A) (hg : Gl X x) (hx : ∀ σ, PassesAt CX X σ (E σ)) (ha : PA X (e :: es) t)
    (hdb : (x == ("__debug__" : Str)) = false := by decide) (he : starEach (e :: es) X.env = (false, eval e X.env) :: starEach es X.env := by rfl) (hpl : (backTo pos (starEach es X.env)).any (·.1) = false := by rfl) :
    PE X (.Call (.Name x p) (e :: es) [] pos) (tCallS sp E t) := by
  obtain ⟨f, fd, F, m, kp, b⟩ := h
  exact pe_callS F hr hg m kp b hx ha hdb he hpl
theorem rd_callS {σ : St} {H : Hp} {Q : VK} {E : St → XK} (h : t σ H fun vs H1 => sp vs H1 Q (E σ)) : tCallS sp E t σ H Q := h
/-- the module's ints and texts -/
theorem pe_globI {i : Int} (h : ∃ t, X.mg x = some (.int i t)) (hg : Gl X x) (hd : (x == ("__debug__" : Str)) = false := by decide) : PE X (.Name x pos) (tC (.int i)) := by
  obtain ⟨t, h⟩ := h
  exact pe_glob hg h ⟨t, rfl⟩ hd
theorem pe_globS {z : Str} (h : ∃ t, X.mg x = some (.str z t)) (hg : Gl X x) (hd : (x == ("__debug__" : Str)) = false := by decide) : PE X (.Name x pos) (tC (.str z)) := by
  obtain ⟨t, h⟩ := h
  exact pe_glob hg h ⟨t, rfl⟩ hd
theorem pe_globR {a : Addr} (h : X.mg x = some (.ref a)) (hg : Gl X x) (hd : (x == ("__debug__" : Str)) = false := by decide) : PE X (.Name x pos) (tC (.ref a)) := pe_glob hg h rfl hd
end

/-! ## operators of any kind of operands -/
section
variable {X : Cx}
def rAddU (K : PySem.W.Frag) : R2 := fun x y H Q => (∃ i j, x = .int i ∧ y = .int j ∧ Q (.int (i + j)) H) ∨ (∃ i j, x = .str i ∧ y = .str j ∧ i.length + j.length ≤ sizeLine ∧ Q (.str (i ++ j)) H) ∨ rCat x y H Q ∨ rCatA K x y H Q
theorem addU : OpR X (binaryOp .Add) (rAddU X.K) := op_add.or (op_add_str.or (op_cat.or op_catA))
def rMulU (K : PySem.W.Frag) : R2 := fun x y H Q => (∃ i j, x = .int i ∧ y = .int j ∧ CMul i j ∧ Q (.int (i * j)) H) ∨ rRep x y H Q ∨ rRepT K x y H Q
theorem mulU : OpR X (binaryOp .Mult) (rMulU X.K) := op_mul.or (op_rep.or op_repT)
def rSubU : R2 := fun x y H Q => ∃ i j, x = .int i ∧ y = .int j ∧ Q (.int (i - j)) H
theorem subU : OpR X (binaryOp .Sub) rSubU := op_sub
def rModU : R2 := fun x y H Q => ∃ i j, x = .int i ∧ y = .int j ∧ 0 < j ∧ Q (.int (i % j)) H
theorem modU : OpR X (binaryOp .Mod) rModU := op_mod
def rDivU : R2 := fun x y H Q => ∃ i j, x = .int i ∧ y = .int j ∧ CDiv i j ∧ Q (.int (i / j)) H
theorem divU : OpR X (binaryOp .FloorDiv) rDivU := op_fdiv
def rPowU : R2 := fun x y H Q => ∃ i j, x = .int i ∧ y = .int j ∧ CPow i j ∧ Q (.int (i ^ j.toNat)) H
theorem powU : OpR X (binaryOp .Pow) rPowU := op_pow
def rLtU : R2 := fun x y H Q => ∃ i j, x = .int i ∧ y = .int j ∧ Q (.bl (decide (i < j))) H
theorem ltU : OpR X (compareOp .Lt) rLtU := op_lt
def rLeU : R2 := fun x y H Q => ∃ i j, x = .int i ∧ y = .int j ∧ Q (.bl (decide (i ≤ j))) H
theorem leU : OpR X (compareOp .LtE) rLeU := op_le
def rGtU : R2 := fun x y H Q => ∃ i j, x = .int i ∧ y = .int j ∧ Q (.bl (decide (j < i))) H
theorem gtU : OpR X (compareOp .Gt) rGtU := op_gt
def rGeU : R2 := fun x y H Q => ∃ i j, x = .int i ∧ y = .int j ∧ Q (.bl (decide (j ≤ i))) H
theorem geU : OpR X (compareOp .GtE) rGeU := op_ge
def rEqU (K : PySem.W.Frag) : R2 := fun x y H Q => (scal x y = true ∧ Q (.bl (decide (x = y))) H) ∨ rEqD K x y H Q
theorem eqU (hu : X.A.units + 64 < cLine) : OpR X (compareOp .Eq) (rEqU X.K) := op_eq.or (op_eqD hu)
def rNeU (K : PySem.W.Frag) : R2 := fun x y H Q => (scal x y = true ∧ Q (.bl (!decide (x = y))) H) ∨ rNeD K x y H Q
theorem neU (hu : X.A.units + 64 < cLine) : OpR X (compareOp .NotEq) (rNeU X.K) := op_ne.or (op_neD hu)
def rInU (K : PySem.W.Frag) : R2 := fun x y H Q => rIn K false x y H Q ∨ rInS x y H Q
theorem op_inS' : OpR X (compareOp .In) rInS := op_in_sign
theorem op_notInS' : OpR X (compareOp .NotIn) rNotInS := op_notIn_sign
theorem inU : OpR X (compareOp .In) (rInU X.K) := op_in_seq.or op_inS'
def rNotInU (K : PySem.W.Frag) : R2 := fun x y H Q => rIn K true x y H Q ∨ rNotInS x y H Q
theorem notInU : OpR X (compareOp .NotIn) (rNotInU X.K) := op_notIn_seq.or op_notInS'
def rSlU (K : PySem.W.Frag) : V → Option Int → Option Int → Hp → VK → Prop := fun x lo hi H Q => rSlL K x lo hi H Q ∨ rSlA K x lo hi H Q
theorem slU : SlR X (rSlU X.K) := sl_list.or sl_tupA
def rLenU (K : PySem.W.Frag) : List V → Hp → VK → Prop := fun xs H Q => (∃ p ys, xs = [.ref p] ∧ (SqL K H p ys ∨ SqT K H p ys) ∧ Q (.int ys.length) H) ∨ (∃ z : Str, xs = [.str z] ∧ z.length ≤ sizeLine ∧ Q (.int z.length) H)
theorem lenU : CallR X (.builtin "len") (rLenU X.K) := call_len_seq.or call_len_str
def rIntU : List V → Hp → VK → Prop := fun xs H Q => (∃ i, xs = [.int i] ∧ Q (.int i) H) ∨ ∃ k, xs = [.bl k] ∧ Q (.int (if k then 1 else 0)) H
theorem intU : CallR X (.type "int") rIntU := call_int1
def rMax2 : List V → Hp → VK → Prop := fun xs H Q => ∃ i j, xs = [.int i, .int j] ∧ Q (.int (if j > i then j else i)) H
theorem max2U (hc : X.calm = true) : CallR X (.builtin "max") rMax2 := call_max2 hc
def rMin2 : List V → Hp → VK → Prop := fun xs H Q => ∃ i j, xs = [.int i, .int j] ∧ Q (.int (if j < i then j else i)) H
theorem min2U (hc : X.calm = true) : CallR X (.builtin "min") rMin2 := call_min2 hc
def rTupU (K : PySem.W.Frag) : List V → Hp → VK → Prop := fun xs H Q => ∃ p ys, xs = [.ref p] ∧ ((SqL K H p ys ∧ ∀ l, H l = none → Q (.ref l) (upd H l (.tup ys))) ∨ (SqT K H p ys ∧ Q (.ref p) H))
theorem tupU : CallR X (.type "tuple") (rTupU X.K) := call_tuple_of
end
section
variable {K : PySem.W.Frag} {H : Hp} {Q : VK} {i j : Int} {a b p : Addr} {xs ys : List V} {z z' : Str}
theorem u_add (h : Q (.int (i + j)) H) : rAddU K (.int i) (.int j) H Q := .inl ⟨i, j, rfl, rfl, h⟩
theorem u_addS (l : z.length + z'.length ≤ sizeLine) (h : Q (.str (z ++ z')) H) : rAddU K (.str z) (.str z') H Q := .inr (.inl ⟨z, z', rfl, rfl, l, h⟩)
theorem u_addL (ha : H a = some (.lst xs)) (hb : H b = some (.lst ys)) (l : xs.length + ys.length ≤ sizeLine) (h : ∀ p, H p = none → Q (.ref p) (upd H p (.lst (xs ++ ys)))) : rAddU K (.ref a) (.ref b) H Q :=
  .inr (.inr (.inl ⟨a, b, xs, ys, rfl, rfl, ha, hb, l, h⟩))
theorem u_mul (c : CMul i j) (h : Q (.int (i * j)) H) : rMulU K (.int i) (.int j) H Q := .inl ⟨i, j, rfl, rfl, c, h⟩
theorem u_sub (h : Q (.int (i - j)) H) : rSubU (.int i) (.int j) H Q := ⟨i, j, rfl, rfl, h⟩
theorem u_mod (c : 0 < j) (h : Q (.int (i % j)) H) : rModU (.int i) (.int j) H Q := ⟨i, j, rfl, rfl, c, h⟩
theorem u_div (c : 0 < j ∧ j < 1073741824) (h : Q (.int (i / j)) H) : rDivU (.int i) (.int j) H Q := ⟨i, j, rfl, rfl, c, h⟩
theorem u_pow (c : CPow i j) (h : Q (.int (i ^ j.toNat)) H) : rPowU (.int i) (.int j) H Q := ⟨i, j, rfl, rfl, c, h⟩
theorem u_lt (h : Q (.bl (decide (i < j))) H) : rLtU (.int i) (.int j) H Q := ⟨i, j, rfl, rfl, h⟩
theorem u_le (h : Q (.bl (decide (i ≤ j))) H) : rLeU (.int i) (.int j) H Q := ⟨i, j, rfl, rfl, h⟩
theorem u_gt (h : Q (.bl (decide (j < i))) H) : rGtU (.int i) (.int j) H Q := ⟨i, j, rfl, rfl, h⟩
theorem u_ge (h : Q (.bl (decide (j ≤ i))) H) : rGeU (.int i) (.int j) H Q := ⟨i, j, rfl, rfl, h⟩
theorem u_eqI (h : Q (.bl (decide (i = j))) H) : rEqU K (.int i) (.int j) H Q := .inl ⟨rfl, by
  have e : decide (V.int i = V.int j) = decide (i = j) := by
    by_cases c : i = j
    · rw [decide_eq_true c, decide_eq_true (congrArg V.int c)]
    · rw [decide_eq_false c, decide_eq_false (fun q => c (V.int.inj q))]
  rw [e]; exact h⟩
theorem u_eqS (h : Q (.bl (decide (z = z'))) H) : rEqU K (.str z) (.str z') H Q := .inl ⟨rfl, by
  have e : decide (V.str z = V.str z') = decide (z = z') := by
    by_cases c : z = z'
    · rw [decide_eq_true c, decide_eq_true (congrArg V.str c)]
    · rw [decide_eq_false c, decide_eq_false (fun q => c (V.str.inj q))]
  rw [e]; exact h⟩
theorem u_neI (h : Q (.bl (!decide (i = j))) H) : rNeU K (.int i) (.int j) H Q := .inl ⟨rfl, by
  have e : decide (V.int i = V.int j) = decide (i = j) := by
    by_cases c : i = j
    · rw [decide_eq_true c, decide_eq_true (congrArg V.int c)]
    · rw [decide_eq_false c, decide_eq_false (fun q => c (V.int.inj q))]
  rw [e]; exact h⟩
theorem u_neB {x y : Bool} (h : Q (.bl (!decide (x = y))) H) : rNeU K (.bl x) (.bl y) H Q := .inl ⟨rfl, by
  have e : decide (V.bl x = V.bl y) = decide (x = y) := by cases x <;> cases y <;> rfl
  rw [e]; exact h⟩
theorem u_ixL {v : V} (s : SqL K H p xs) (e : atI xs i = some v) (h : Q v H) : rIx K (.ref p) (.int i) H Q := .inl ⟨p, xs, i, v, rfl, rfl, s, e, h⟩
theorem u_ixT {v : V} (s : SqT K H p xs) (e : atI xs i = some v) (h : Q v H) : rIx K (.ref p) (.int i) H Q := .inr (.inl ⟨p, xs, i, v, rfl, rfl, s, e, h⟩)
theorem u_ixS {c : Nat} (l : z.length ≤ sizeLine) (e : atI z.cps.toList i = some c) (h : Q (.str ⟨#[c]⟩) H) : rIx K (.str z) (.int i) H Q := .inr (.inr ⟨z, i, c, rfl, rfl, l, e, h⟩)
theorem u_lenL (s : SqL K H p xs) (h : Q (.int xs.length) H) : rLenU K [.ref p] H Q := .inl ⟨p, xs, rfl, .inl s, h⟩
theorem u_lenT (s : SqT K H p xs) (h : Q (.int xs.length) H) : rLenU K [.ref p] H Q := .inl ⟨p, xs, rfl, .inr s, h⟩
theorem u_lenS (l : z.length ≤ sizeLine) (h : Q (.int z.length) H) : rLenU K [.str z] H Q := .inr ⟨z, rfl, l, h⟩
theorem u_int (h : Q (.int i) H) : rIntU [.int i] H Q := .inl ⟨i, rfl, h⟩
theorem u_intB {c : Bool} (h : Q (.int (if c then 1 else 0)) H) : rIntU [.bl c] H Q := .inr ⟨c, rfl, h⟩
theorem u_max (h : Q (.int (if j > i then j else i)) H) : rMax2 [.int i, .int j] H Q := ⟨i, j, rfl, h⟩
theorem u_min (h : Q (.int (if j < i then j else i)) H) : rMin2 [.int i, .int j] H Q := ⟨i, j, rfl, h⟩
theorem u_tupL (s : SqL K H p xs) (h : ∀ l, H l = none → Q (.ref l) (upd H l (.tup xs))) : rTupU K [.ref p] H Q := ⟨p, xs, rfl, .inl ⟨s, h⟩⟩
theorem u_setL {v : V} {n : Nat} {R : Hp → Prop} (h : H p = some (.lst xs)) (e : ixN xs.length i = some n) (q : R (upd H p (.lst (xs.set n v)))) : rSetL (.ref p) (.int i) v H R := ⟨p, xs, i, n, rfl, rfl, h, e, q⟩
theorem u_neg (h : Q (.int (-i)) H) : rU (fun i => .int (-i)) (.int i) H Q := ⟨i, rfl, h⟩
theorem rd_gsub {σ : St} {to ti : TE} {t : TSet} {v : V} {R : St → Hp → Prop} (h : to σ H fun o H1 => ti σ H1 fun i H2 => t o i v H2 fun H3 => R σ H3) : gSub to ti t v σ H R := h
end
end Mine

/-! ### Kit3 -/
namespace HT
open PySem PySem.Spec PyProof.Rows
theorem adjust_rev (n : Nat) : Builtin.Slice.sliceAdjust none none (-1) (n : Int) = ((n : Int) - 1, -1) := by
  unfold Builtin.Slice.sliceAdjust
  simp
theorem places_rev (n : Nat) : Builtin.Slice.slicePlaces ((n : Int) - 1) (-1) (-1) = n := by
  unfold Builtin.Slice.slicePlaces
  have h1 : ¬ ((-1 : Int) > 0) := by omega
  simp only [h1, if_false]
  by_cases h : (n : Int) - 1 > -1
  · rw [if_pos h]
    have e : (-(-1 : Int)) = 1 := by omega
    rw [e, Int.ediv_one]
    omega
  · rw [if_neg h]; omega
theorem pick_rev (xs : Array Value) : ((List.range xs.size).filterMap fun (m : Nat) => xs[((xs.size : Int) - 1 + (m : Int) * (-1)).toNat]?).toArray = xs.toList.reverse.toArray := by
  congr 1
  have e : ∀ l : List Nat, (∀ m ∈ l, m < xs.size) → l.filterMap (fun (m : Nat) => xs[((xs.size : Int) - 1 + (m : Int) * (-1)).toNat]?) = l.map (fun m => xs.getD (xs.size - 1 - m) .none) := by
    intro l
    induction l with
    | nil => intro _; rfl
    | cons m r ih =>
      intro h
      have hm' : m < xs.size := h m List.mem_cons_self
      have e1 : ((xs.size : Int) - 1 + (m : Int) * (-1)).toNat = xs.size - 1 - m := by omega
      have h2 : xs.size - 1 - m < xs.size := by omega
      have e2 : xs[((xs.size : Int) - 1 + (m : Int) * (-1)).toNat]? = some (xs.getD (xs.size - 1 - m) .none) := by
        rw [e1]
        simp [Array.getD, h2]
      rw [List.filterMap_cons, e2, List.map_cons, ih fun q hq => h q (List.mem_cons_of_mem _ hq)]
  rw [e _ fun m hm => List.mem_range.mp hm]
  apply List.ext_getElem?
  intro i
  rw [List.getElem?_map]
  by_cases hi : i < xs.size
  · rw [List.getElem?_range hi]
    rw [List.getElem?_reverse (by simpa using hi)]
    have h2 : xs.size - 1 - i < xs.size := by omega
    simp [Array.getD, h2]
  · have h1 : (List.range xs.size)[i]? = none := by simp; omega
    have h2 : xs.toList.reverse[i]? = none := by simp; omega
    rw [h1, h2]; rfl
theorem extend_tupW (l : Addr) (items : Array Value) (n : Nat) (b : Addr) (items2 : Array Value) (n2 : Nat) (dd : Option Addr) (sl : Array (Option Value)) (hs0 : ¬(!items.isEmpty && Builtin.List.listTooLong (items.size + items2.size)) = true) (hs1 : items.size ≤ sizeLine) (hs2 : items.size + items2.size ≤ sizeLine + 1) :
    Meets (Builtin.«list.extend» ⟨[.ref l, .ref b], []⟩) (fun _ R s => s.heap.get? l = some { cls := .type "list", dict := none, data := .seq items n, slots := #[] } ∧ s.heap.get? b = some { cls := .type "tuple", dict := dd, data := .seq items2 n2, slots := sl } ∧ R (.ok (.ret Value.none)) { s with heap := s.heap.update l (Obj.mapSeq fun x => x ++ items2), toks := s.toks }) :=
  .of_wp fun prog w A R s h => by
    obtain ⟨hp, g, d, tk, os⟩ := s; obtain ⟨hl, hb, h⟩ := h; have f1 := AutoSeq1.idx_int; have f2 := AutoSeq1.sub_tuple_tuple; have f3 := AutoSeq1.sub_list_list; have f4 := AutoSeq1.sub_tuple_list; have f5 := AutoSeq1.sub_list_tuple;
    have hz' : (items ++ items2).size ≤ sizeLine + 1 := by rw [Array.size_append]; exact hs2
    wp_walk using (wpAny_updateSeq hl rfl (hz := hs1) (_hz' := hz')), AutoSeq1.wpAny_loadPart' hl, AutoSeq1.wpAny_loadPart' hb; exact ⟨_, rfl, h⟩
variable {prog : Program} {w : World} {A : Around} {E : Value → Shared → Prop} {s : Shared}
theorem sliceApplied_rev {sl : Addr} {vl vu vs : Value} {n : Nat} {Q : Int × Int × Nat → Shared → Prop} (hs : s.heap.IsSliceOf sl vl vu vs) (pl : IsPart vl none) (pu : IsPart vu none) (ps : IsPart vs (some (-1)))
    (h : Q ((n : Int) - 1, -1, n) s) : wpAny (model prog w) A (Builtin.Slice.sliceApplied (.ref sl) (pure (n : Int))) Q E s := by
  obtain ⟨os, hos, hcs, hds⟩ := id hs
  unfold Builtin.Slice.sliceApplied Builtin.Slice.sliceFields
  refine wpAny_bind (wpAny_bind (wpAny_field hos hds (x := vl) rfl (wpAny_bind (wpAny_field hos hds (x := vu) rfl (wpAny_bind (wpAny_field hos hds (x := vs) rfl (wpAny_pure ?_)))))))
  refine wpAny_bind (slicePart_ ps ?_)
  show wpAny _ _ (if ((-1 : Int) == 0) = true then _ else _) _ _ s
  rw [if_neg (by decide)]
  refine wpAny_bind (slicePart_ pl (wpAny_bind (slicePart_ pu (wpAny_bind (wpAny_pure ?_)))))
  show wpAny _ _ (match Builtin.Slice.sliceAdjust none none (-1) (n : Int) with | (lo, hi) => pure (lo, (-1 : Int), Builtin.Slice.slicePlaces lo hi (-1))) _ _ s
  rw [adjust_rev n]
  show wpAny _ _ (pure ((n : Int) - 1, (-1 : Int), Builtin.Slice.slicePlaces ((n : Int) - 1) (-1) (-1))) _ _ s
  rw [places_rev]
  exact wpAny_pure h
theorem getItem_tuple_rev {t sl : Addr} {items : Array Value} {vl vu vs : Value} {Q : Value → Shared → Prop} (ht : IsTup s.heap t items) (hs : s.heap.IsSliceOf sl vl vu vs) (pl : IsPart vl none) (pu : IsPart vu none) (ps : IsPart vs (some (-1)))
    (h : Q (.ref s.heap.objs.size) { s with heap := s.heap.push { cls := .type "tuple", data := .seq items.toList.reverse.toArray } })
    (hsz : items.size ≤ sizeLine) : wpAny (model prog w) A (getItem (.ref t) (.ref sl)) Q E s := by
  have htake : sizeOk (.seq items.toList.reverse.toArray) := by
    show items.toList.reverse.toArray.size ≤ sizeLine
    rw [List.size_toArray, List.length_reverse, Array.length_toList]
    omega
  obtain ⟨os, hos, hcs, hds⟩ := id hs
  have hTs : s.TypeIs (.ref sl) "slice" := ⟨os, hos, hcs⟩
  unfold getItem
  try with_reducible refine wpAny_holding ?_
  first | refine wpAny_bind (wpAny_pure ?_) | skip
  refine wpAny_bind (wpAny_sequenceKey ht.typeIs (by decide) ?_)
  refine wpAny_bind (wpAny_callSpecial?_slot (name := Str.ofString "__getitem__") ht.typeIs PyProof.Rows.slot_tuple_getitem
    (wpAny_call_entry PyProof.Rows.slot_tuple_getitem ht.typeIs entry_tuple_getitem ?_ (args_tuple_getitem _ _)))
  show wpAny _ _ (Builtin.Tuple.tupleItemsOf (.ref t) >>= _) _ _ s
  refine wpAny_bind (tupleItemsOf_ ht ?_)
  refine wpAny_bind (wpAny_typeOf hTs ?_)
  rw [if_pos (by decide)]
  refine wpAny_bind (sliceApplied_rev (n := items.size) hs pl pu ps ?_)
  have hno : ¬ ((((items.size : Int) - 1) == 0 && (-1 : Int) == 1 && items.size == items.size) = true) := by
    intro q
    rw [Bool.and_eq_true, Bool.and_eq_true] at q
    exact absurd (eq_of_beq q.1.2) (by decide)
  show wpAny _ _ (if (((items.size : Int) - 1) == 0 && (-1 : Int) == 1 && items.size == items.size) = true then _ else _) _ _ s
  rw [if_neg hno, pick_rev]
  first
    | exact wpAny_bind (m := Builtin.Tuple.tupleExact _) (wpAny_newObj_type (wpAny_pure ⟨_, rfl, wpAny_pure h⟩) htake)
    | exact wpAny_bind (m := Builtin.Tuple.tupleExact _) (wpAny_newObj_type (wpAny_bind (wpAny_pure (wpAny_pure ⟨_, rfl, wpAny_pure h⟩))) htake)
    | exact wpAny_bind (wpAny_bind (m := Builtin.Tuple.tupleExact _) (wpAny_newObj_type (wpAny_pure (wpAny_pure ⟨_, rfl, wpAny_pure h⟩)) htake))
    | exact wpAny_bind (wpAny_bind (m := Builtin.Tuple.tupleExact _) (wpAny_newObj_type (wpAny_pure ⟨_, rfl, wpAny_pure h⟩) htake))
end HT
namespace Mine
open PySem PySem.Spec PyProof.Rows L2
section
variable {X : Cx}
/-- e[::-1], a list or a tuple -/
def tRevU (K : PySem.W.Frag) (te : TE) : TE := fun σ H Q => te σ H fun x H1 => ∃ a xs, x = .ref a ∧ ((SqL K H1 a xs ∧ ∀ p, H1 p = none → Q (.ref p) (upd H1 p (.lst xs.reverse))) ∨ (SqT K H1 a xs ∧ ∀ p, H1 p = none → Q (.ref p) (upd H1 p (.tup xs.reverse))))
theorem pe_revU {e : Expr} {te : TE} {k : Nat} {p1 p2 p3 pos : Pos} (he : PE X e te) : PE X (.Subscript e (.Slice none none (some (.UnaryOp .USub (.Constant (.int 1) k p1) p2)) p3) pos) (tRevU X.K te) := by
  refine ⟨fun pins s σ H Q I h => ?_⟩
  refine Subscript_ (thn (he.run pins s σ H _ I h) fun v s1 ⟨x, H1, I1, r1, q1⟩ => ?_)
  obtain ⟨a, xs, ex, q⟩ := q1
  subst ex
  cases r1
  have hst : PO X (some (.UnaryOp .USub (.Constant (.int 1) k p1) p2)) (tPart (tUn (rU fun i => .int (-i)) (tC (.int 1)))) := po_some (pe_un un_neg pe_int)
  refine wpAny_Slice (thn (po_none.run pins s1 σ H1 (fun o H2 => o = none ∧ H2 = H1) I1 ⟨rfl, rfl⟩) fun vl s2 ⟨l, H2, I2, pl, el, e2⟩ => ?_)
  subst el e2
  refine thn (po_none.run pins s2 σ H2 (fun o H3 => o = none ∧ H3 = H2) I2 ⟨rfl, rfl⟩) fun vu s3 ⟨u, H3, I3, pu, eu, e3⟩ => ?_
  subst eu e3
  refine thn (hst.run pins s3 σ H3 (fun o H4 => o = some (-1) ∧ H4 = H3) I3 ⟨1, rfl, -1, rfl, rfl, rfl⟩) fun vs s4 ⟨o, H4, I4, ps, eo, e4⟩ => ?_
  subst eo e4
  have I5 : Inv X pins σ H4 { s4 with heap := s4.heap.push { cls := .type "slice", data := .fields #[vl, vu, vs] } } := I4.kept (t' := s4.toks) fun b ob q => Heap.get?_push_of_some _ q
  show wpAny (model X.prog X.w) X.A (subscriptTail e (.Slice none none (some (.UnaryOp .USub (.Constant (.int 1) k p1) p2)) p3) (.ref a) (.ref s4.heap.objs.size)) (EP X pins σ Q) X.xe { s4 with heap := s4.heap.push { cls := .type "slice", data := .fields #[vl, vu, vs] } }
  rcases q with ⟨hx, q⟩ | ⟨hx, q⟩
  · obtain ⟨its, r, ht, hz⟩ := I5.list hx
    have hlen := r.length
    refine tail_any (ops := [.ref a, .ref s4.heap.objs.size]) ht.isList.typeIs (PySem.slot_list_getitem.lookup) ?_ (by with_unfolding_all rfl)
    refine wpAny_getItem_list_slice ht.isList (Heap.IsSliceOf.new _ vl vu vs) pl pu ps (by decide) ?_ (by rw [List.size_toArray]; omega)
    rw [PySem.W.krv_pick]
    refine ⟨.ref _, _, I5.laid (t' := s4.toks) (o := .lst xs.reverse) (fun b ob q => Heap.get?_push_of_some _ q) (Nat.le_refl _) ?_, rfl, q _ (I5.hok.fresh (Nat.le_refl _))⟩
    exact ⟨by rw [List.length_reverse]; exact hz, _, 0, r.reverse, Heap.get?_push_size _ rfl⟩
  · obtain ⟨its, r, ht, hz⟩ := I5.tuple hx
    have hlen := r.length
    refine tail_any (ops := [.ref a, .ref s4.heap.objs.size]) ht.typeIs (PyProof.Rows.slot_tuple_getitem.lookup) ?_ (by with_unfolding_all rfl)
    refine HT.getItem_tuple_rev ht (Heap.IsSliceOf.new _ vl vu vs) pl pu ps ?_ (by rw [List.size_toArray]; omega)
    refine ⟨.ref _, _, I5.laid (t' := s4.toks) (o := .tup xs.reverse) (fun b ob q => Heap.get?_push_of_some _ q) (Nat.le_refl _) ?_, rfl, q _ (I5.hok.fresh (Nat.le_refl _))⟩
    refine ⟨by rw [List.length_reverse]; exact hz, its.reverse, r.reverse, _, Heap.get?_push_size _ rfl, rfl, 0, rfl⟩
/-- xs.extend(e), e a list or a tuple -/
def rExtT (K : PySem.W.Frag) : V → List V → Hp → VK → Prop := fun x vs H Q => ∃ l b xs zs, x = .ref l ∧ vs = [.ref b] ∧ H l = some (.lst xs) ∧ SqT K H b zs ∧ xs.length + zs.length ≤ sizeLine ∧ Q .non (upd H l (.lst (xs ++ zs)))
theorem mt_extT : MtM X "list.extend" (rExtT X.K) := by
  intro pins s σ H x vs v us Q I rx rv h
  obtain ⟨l, b, xs, zs, rfl, rfl, hH, hB, hz, q⟩ := h
  cases rx
  obtain ⟨u, rfl, ru⟩ := rv.one
  cases ru
  obtain ⟨z, its, n, r, hl, e⟩ := I.lstM hH
  obtain ⟨its2, r2, ⟨⟨cls, dd, data, sl⟩, ho, hc, n2, hd⟩, hs⟩ := I.tuple hB
  simp only at hc hd
  subst hc hd
  have hl2 := r2.length
  have hsz : its.toArray.size + its2.toArray.size ≤ sizeLine := by rw [List.size_toArray, List.size_toArray]; omega
  have hlong : ¬ (!its.toArray.isEmpty && Builtin.List.listTooLong (its.toArray.size + its2.toArray.size)) = true := by
    rw [notLongL hsz, Bool.and_false]
    exact Bool.false_ne_true
  refine call_meets F.slot_list_extend ⟨_, e, rfl⟩ F.entry_list_extend (F.args_list_extend_2 _ _)
    (HT.extend_tupW l its.toArray n b its2.toArray n2 dd sl hlong (by rw [List.size_toArray]; omega) (by omega)) ⟨e, ho, ?_⟩
  refine ⟨.non, _, I.lset (its' := its ++ its2) hH e (by simp) (r.append r2) ?_, rfl, q⟩
  rw [List.length_append]
  omega
def rExtU (K : PySem.W.Frag) : V → List V → Hp → VK → Prop := fun x vs H Q => rExtend x vs H Q ∨ rExtT K x vs H Q
theorem mt_extU : MtR X "list.extend" (rExtU X.K) := MtR.or mt_extend mt_extT
end
end Mine

/-! ### Kit4 -/
namespace Mine
open PySem PySem.Spec L2
section
variable {X : Cx} (K : PySem.W.Frag)
theorem kAdd (h : X.K = K := by rfl) : OpR X (binaryOp .Add) (rAddU K) := by subst h; exact addU
theorem kMul (h : X.K = K := by rfl) : OpR X (binaryOp .Mult) (rMulU K) := by subst h; exact mulU
theorem kEq (hu : X.A.units + 64 < cLine) (h : X.K = K := by rfl) : OpR X (compareOp .Eq) (rEqU K) := by subst h; exact eqU hu
theorem kNe (hu : X.A.units + 64 < cLine) (h : X.K = K := by rfl) : OpR X (compareOp .NotEq) (rNeU K) := by subst h; exact neU hu
theorem kIn (h : X.K = K := by rfl) : OpR X (compareOp .In) (rInU K) := by subst h; exact inU
theorem kNotIn (h : X.K = K := by rfl) : OpR X (compareOp .NotIn) (rNotInU K) := by subst h; exact notInU
theorem kSl (h : X.K = K := by rfl) : SlR X (rSlU K) := by subst h; exact slU
theorem kLen (h : X.K = K := by rfl) : CallR X (.builtin "len") (rLenU K) := by subst h; exact lenU
theorem kTup (h : X.K = K := by rfl) : CallR X (.type "tuple") (rTupU K) := by subst h; exact tupU
theorem kIx (h : X.K = K := by rfl) : IxR X (rIx K) := by subst h; exact ix_seq
theorem kIsi (h : X.K = K := by rfl) : CallR X (.builtin "isinstance") (rIsi K) := by subst h; exact call_isi
theorem kExt (h : X.K = K := by rfl) : MtR X "list.extend" (rExtU K) := by subst h; exact mt_extU
theorem kSum (hc : X.calm = true) (h : X.K = K := by rfl) : CallR X (.builtin "sum") (rSum K) := by subst h; exact cr_sum hc
def rListU (K : PySem.W.Frag) : List V → Hp → VK → Prop := fun xs H Q => ∃ p ys, xs = [.ref p] ∧ (SqL K H p ys ∨ SqT K H p ys) ∧ ∀ l, H l = none → Q (.ref l) (upd H l (.lst ys))
theorem kList (h : X.K = K := by rfl) : CallR X (.type "list") (rListU K) := by subst h; exact call_list_of
variable {e o : Expr} {es : List Expr} {te to : TE} {ta t : TA} {tg : Expr}
theorem pe_revK {k : Nat} {p1 p2 p3 pos : Pos} (he : PE X e te) (h : X.K = K := by rfl) : PE X (.Subscript e (.Slice none none (some (.UnaryOp .USub (.Constant (.int 1) k p1) p2)) p3) pos) (tRevU K te) := by subst h; exact pe_revU he
theorem pi_listK (he : PE X e te) (h : X.K = K := by rfl) : PI X tg e (iList K te) := by subst h; exact pi_list he
theorem pi_tupK (he : PE X e te) (h : X.K = K := by rfl) : PI X tg e (iTup K te) := by subst h; exact pi_tup he
theorem pi_enumK {p pos tpos : Pos} {elts : List Expr} {kk : Nat} (hg : Gl X "enumerate") (hm : X.mg "enumerate" = none) (ha : PA X [e] ta) (h : X.K = K := by rfl) (hs : starEach [e] X.env = [(false, eval e X.env)] := by rfl) :
    PI X (.Tuple elts kk tpos) (.Call (.Name "enumerate" p) [e] [] pos) (iEnum K ta) := by subst h; exact pi_enum hg hm ha hs
theorem pi_zipK {e2 : Expr} {p pos tpos : Pos} {elts : List Expr} {kk : Nat} (hg : Gl X "zip") (hm : X.mg "zip" = none) (ha : PA X [e, e2] ta) (h : X.K = K := by rfl)
    (hs : starEach [e, e2] X.env = (false, eval e X.env) :: starEach [e2] X.env := by rfl) (hpl : (backTo pos (starEach [e2] X.env)).any (·.1) = false := by rfl) :
    PI X (.Tuple elts kk tpos) (.Call (.Name "zip" p) [e, e2] [] pos) (RZ.iZipA K ta) := by subst h; exact RZ.pi_zipA hg hm ha hs hpl
theorem pi_revK {p pos : Pos} (hg : Gl X "reversed") (hm : X.mg "reversed" = none) (he : PE X e te) (h : X.K = K := by rfl) (hs : starEach [e] X.env = (false, eval e X.env) :: starEach [] X.env := by rfl) : PI X tg (.Call (.Name "reversed" p) [e] [] pos) (RT.iRevA K te) := by
  subst h; exact RT.pi_revA hg hm he hs
theorem pg_tupK {es : List Expr} {k : Nat} {t : TGs} {n : Nat} {pos : Pos} (hc : X.calm = true) (hp : PGs X es t) (h : X.K = K := by rfl)
    (hn : (assignEach es X.env).length = n := by rfl) (hst : (assignEach es X.env).findIdx? (·.1) = none := by rfl) : PG X (.Tuple es k pos) (gTup K n t) := by subst h; exact pg_tup hc hp hn hst
/-- a test by truth -/
def tTruU (K : PySem.W.Frag) (ta : TE) : TT := fun σ H Q => ta σ H fun x H' => ∃ k, TruV K x H' k ∧ Q k H'
theorem pt_truthK (ha : PE X e te) (he : ∀ whole, isTrue e X.env whole = (do let v ← whole; standAt e.pos; holding [v] (truthy v))) (h : X.K = K := by rfl) : PT X e (tTruU K te) := by subst h; exact pt_truth ha he
variable {name : Str} {apos cpos : Pos} {T id : String} {r : V → List V → Hp → VK → Prop}
theorem pe_bm0K (pa : PlainAttrs T) (slot : Slot T name id) (hty : typeOf (.builtin id) = pure (.type "method_descriptor")) (hm : MtR X id r) (ho : PE X o to) (h : X.K = K := by rfl)
    (hbase : attributeBase o name X.env (eval o X.env) = eval o X.env := by rfl) (hline : (apos.endLine == cpos.line) = true := by rfl) : PE X (.Call (.Attribute o name apos) [] [] cpos) (tBM0 K T r to) := by
  subst h; exact pe_bm0 pa slot hty hm ho hbase hline
theorem pe_bmK (pa : PlainAttrs T) (slot : Slot T name id) (hty : typeOf (.builtin id) = pure (.type "method_descriptor")) (hm : MtR X id r) (ho : PE X o to) (ha : PA X (e :: es) t) (h : X.K = K := by rfl)
    (hbase : attributeBase o name X.env (eval o X.env) = eval o X.env := by rfl)
    (hfew : ((backTo cpos (starEach (e :: es) X.env)).all (fun x => !x.1) && (backToKw cpos (keywordEach [] X.env)).all (fun x => x.1.isSome)
      && decide ((e :: es).length + ([] : List Keyword).length + (if ([] : List Keyword).isEmpty then 0 else 1) < 30)) = true := by rfl)
    (hline : (apos.endLine == cpos.line) = true := by rfl) (hs : starEach (e :: es) X.env = (false, eval e X.env) :: starEach es X.env := by rfl) (hplain : (backTo cpos (starEach es X.env)).any (·.1) = false := by rfl) :
    PE X (.Call (.Attribute o name apos) (e :: es) [] cpos) (tBM K T r to t) := by subst h; exact pe_bm pa slot hty hm ho ha hbase hfew hline hs hplain
end
section
variable {X : Cx}
def rMin3 : List V → Hp → VK → Prop := fun xs H Q => ∃ a b c, xs = [.int a, .int b, .int c] ∧ Q (.int (if b < a then (if c < b then c else b) else (if c < a then c else a))) H
theorem min3U (hc : X.calm = true) : CallR X (.builtin "min") rMin3 := by
  intro pins s σ H xs us Q I r h
  obtain ⟨a, b, c, rfl, q⟩ := h
  cases r with
  | cons r1 r =>
    cases r with
    | cons r2 r =>
      cases r with
      | cons r3 r =>
        cases r
        obtain ⟨t1, rfl⟩ := r1
        obtain ⟨t2, rfl⟩ := r2
        obtain ⟨t3, rfl⟩ := r3
        refine min_three_ints (I.ok.hd hc) fun h' tk k => ⟨_, H, I.kept k, ?_, q⟩
        by_cases h1 : b < a
        · simp only [if_pos h1]
          by_cases h2 : c < b
          · simp only [if_pos h2]; exact ⟨_, rfl⟩
          · simp only [if_neg h2]; exact ⟨_, rfl⟩
        · simp only [if_neg h1]
          by_cases h2 : c < a
          · simp only [if_pos h2]; exact ⟨_, rfl⟩
          · simp only [if_neg h2]; exact ⟨_, rfl⟩
theorem u_min3 {H : Hp} {Q : VK} {a b c : Int} (h : Q (.int (if b < a then (if c < b then c else b) else (if c < a then c else a))) H) : rMin3 [.int a, .int b, .int c] H Q := ⟨a, b, c, rfl, h⟩
/-- a < b < c < d -/
def tChain3 (r r' r'' : R2) (ta tb tc td : TE) : TE := fun σ H Q => ta σ H fun x H1 => tb σ H1 fun y H2 => r x y H2 fun z H3 => ∃ k, z = .bl k ∧
  (if k = true then tc σ H3 fun w H4 => r' y w H4 fun z2 H5 => ∃ k2, z2 = .bl k2 ∧ (if k2 = true then td σ H5 fun v H6 => r'' w v H6 Q else Q (.bl false) H5) else Q (.bl false) H3)
theorem pe_chain3 {a b c d : Expr} {pos : Pos} {ta tb tc td : TE} {op op' op'' : CmpOp} {r r' r'' : R2} (ho : OpR X (compareOp op) r) (ho' : OpR X (compareOp op') r') (ho'' : OpR X (compareOp op'') r'') (ha : PE X a ta) (hb : PE X b tb) (hc : PE X c tc) (hd : PE X d td)
    (hm : lastMarks [op, op', op''] [b, c, d] = false := by with_unfolding_all rfl) : PE X (.Compare a [op, op', op''] [b, c, d] pos) (tChain3 r r' r'' ta tb tc td) := by
  refine ⟨fun pins s σ H Q I h => ?_⟩
  refine PyProof.Rows.Compare_chain (thn (ha.run pins s σ H _ I h) fun v s1 ⟨x, H1, I1, r1, q1⟩ => PyProof.Rows.chain_link (thn (hb.run pins s1 σ H1 _ I1 q1) fun u s2 ⟨y, H2, I2, r2, q2⟩ =>
    thn (ho pins s2 σ H2 x y v u _ I2 r1 r2 q2) fun d s3 ⟨z, H3, I3, r3, k, e, q3⟩ => ?_)) hm
  subst e
  cases r3
  refine wpAny_truthy_bool ?_
  cases k with
  | false => exact PyProof.Rows.ite_ff ⟨.bl false, H3, I3, rfl, q3⟩
  | true =>
    refine PyProof.Rows.ite_tt (PyProof.Rows.chain_link (thn (hc.run pins s3 σ H3 _ I3 q3) fun w' s4 ⟨z', H4, I4, r4, q4⟩ => thn (ho' pins s4 σ H4 y z' u w' _ I4 r2 r4 q4) fun d2 s5 ⟨z5, H5, I5, r5, k5, e5, q5⟩ => ?_))
    subst e5
    cases r5
    refine wpAny_truthy_bool ?_
    cases k5 with
    | false => exact PyProof.Rows.ite_ff ⟨.bl false, H5, I5, rfl, q5⟩
    | true => exact PyProof.Rows.ite_tt (PyProof.Rows.chain_last (thn (hd.run pins s5 σ H5 _ I5 q5) fun w2 s6 ⟨z6, H6, I6, r6, q6⟩ => ho'' pins s6 σ H6 z' z6 w' w2 Q I6 r4 r6 q6))
end
section
variable {σ : St} {H : Hp} {Q : VK} {D : Ends} {ta tb tc td te : TE} {K : PySem.W.Frag}
theorem rd_chain3 {r r' r'' : R2} (h : ta σ H fun x H1 => tb σ H1 fun y H2 => r x y H2 fun z H3 => ∃ k, z = .bl k ∧
  (if k = true then tc σ H3 fun w H4 => r' y w H4 fun z2 H5 => ∃ k2, z2 = .bl k2 ∧ (if k2 = true then td σ H5 fun v H6 => r'' w v H6 Q else Q (.bl false) H5) else Q (.bl false) H3)) : tChain3 r r' r'' ta tb tc td σ H Q := h
theorem rd_tru {R : Bool → Hp → Prop} (h : te σ H fun x H' => ∃ k, TruV K x H' k ∧ R k H') : tTruU K te σ H R := h
theorem rd_truL {a : Addr} {xs : List V} {R : Bool → Prop} (s : SqL K H a xs) (h : R (!xs.isEmpty)) : ∃ k, TruV K (.ref a) H k ∧ R k := ⟨_, .inl ⟨xs, s, rfl⟩, h⟩
theorem rd_truB {b : Bool} {R : Bool → Prop} (h : R b) : ∃ k, TruV K (.bl b) H k ∧ R k := ⟨b, rfl, h⟩
theorem rd_rev (h : te σ H fun x H1 => ∃ a xs, x = .ref a ∧ ((SqL K H1 a xs ∧ ∀ p, H1 p = none → Q (.ref p) (upd H1 p (.lst xs.reverse))) ∨ (SqT K H1 a xs ∧ ∀ p, H1 p = none → Q (.ref p) (upd H1 p (.tup xs.reverse))))) : tRevU K te σ H Q := h
theorem rd_revT {a : Addr} {xs : List V} {R1 R2 : Addr → List V → Prop} (s : SqT K H a xs) (h : R2 a xs) : ∃ a' xs', V.ref a = .ref a' ∧ ((SqL K H a' xs' ∧ R1 a' xs') ∨ (SqT K H a' xs' ∧ R2 a' xs')) := ⟨a, xs, rfl, .inr ⟨s, h⟩⟩
theorem rd_revL {a : Addr} {xs : List V} {R1 R2 : Addr → List V → Prop} (s : SqL K H a xs) (h : R1 a xs) : ∃ a' xs', V.ref a = .ref a' ∧ ((SqL K H a' xs' ∧ R1 a' xs') ∨ (SqT K H a' xs' ∧ R2 a' xs')) := ⟨a, xs, rfl, .inl ⟨s, h⟩⟩
theorem rd_bm {T : String} {r : V → List V → Hp → VK → Prop} {t : TA} (h : te σ H fun x H1 => tyV K T x H1 ∧ t σ H1 fun xs H2 => r x xs H2 Q) : tBM K T r te t σ H Q := h
theorem rd_bm0 {T : String} {r : V → List V → Hp → VK → Prop} (h : te σ H fun x H1 => tyV K T x H1 ∧ r x [] H1 Q) : tBM0 K T r te σ H Q := h
theorem rd_tyL {a : Addr} {xs : List V} {R : Prop} (s : SqL K H a xs) (h : R) : tyV K "list" (.ref a) H ∧ R := ⟨.inl ⟨rfl, xs, s⟩, h⟩
theorem u_app {a : Addr} {xs : List V} {y : V} (e : H a = some (.lst xs)) (l : xs.length < sizeLine) (h : Q .non (upd H a (.lst (xs ++ [y])))) : rAppend (.ref a) [y] H Q := ⟨a, xs, y, rfl, rfl, e, l, h⟩
theorem u_pop {a : Addr} {xs : List V} {y : V} (e : H a = some (.lst xs)) (l : xs[xs.length - 1]? = some y) (h : Q y (upd H a (.lst xs.dropLast))) : rPop (.ref a) [] H Q := ⟨a, xs, y, rfl, rfl, e, l, h⟩
theorem u_extT {a b : Addr} {xs ys : List V} (e : H a = some (.lst xs)) (s : SqT K H b ys) (l : xs.length + ys.length ≤ sizeLine) (h : Q .non (upd H a (.lst (xs ++ ys)))) : rExtU K (.ref a) [.ref b] H Q := .inr ⟨a, b, xs, ys, rfl, rfl, e, s, l, h⟩
theorem rd_for {wi : TI} {g : TG} {tb : TS} {n bk ct : St → Hp → Prop} {rt : VK} (h : wi σ H fun J H1 => ∃ W : Nat → Nat → St → Hp → Prop, (∃ m, W 0 m σ H1) ∧ ∀ i m σ H, W i m σ H →
  (J.stop i H ∧ n σ H) ∨ (J.go i H ∧ ∃ N : St → Hp → Prop, (∀ σ' H', N σ' H' → ∃ m', m' < m ∧ W (i + 1) m' σ' H') ∧ ∀ x H', J.yld i H x H' → g x σ H' fun σ2 H2 => tb ⟨N, rt, n, N⟩ σ2 H2)) : tFor wi g tb ⟨n, rt, bk, ct⟩ σ H := h
theorem rd_iList {R : It → Hp → Prop} (h : te σ H fun x H1 => ∃ a, x = .ref a ∧ (∃ xs, SqL K H1 a xs) ∧ R (Itl K a) H1) : iList K te σ H R := h
theorem rd_iTup {R : It → Hp → Prop} (h : te σ H fun x H1 => ∃ a, x = .ref a ∧ (∃ xs, SqT K H1 a xs) ∧ R (Itt K a) H1) : iTup K te σ H R := h
theorem rd_itL {a : Addr} {xs : List V} {R : Addr → Prop} (s : SqL K H a xs) (h : R a) : ∃ a', V.ref a = .ref a' ∧ (∃ xs, SqL K H a' xs) ∧ R a' := ⟨a, rfl, ⟨xs, s⟩, h⟩
theorem rd_itT {a : Addr} {xs : List V} {R : Addr → Prop} (s : SqT K H a xs) (h : R a) : ∃ a', V.ref a = .ref a' ∧ (∃ xs, SqT K H a' xs) ∧ R a' := ⟨a, rfl, ⟨xs, s⟩, h⟩
theorem rd_rng1 {t : TA} {R : It → Hp → Prop} (h : t σ H fun vs H1 => ∃ j : Int, vs = [.int j] ∧ -(2 ^ 62) ≤ j ∧ j < 2 ^ 62 ∧ R (Itr 0 j.toNat) H1) : iRng1 t σ H R := h
theorem rd_rng2 {t : TA} {R : It → Hp → Prop} (h : t σ H fun vs H1 => ∃ i j : Int, vs = [.int i, .int j] ∧ (-(2 ^ 62) ≤ i ∧ i < 2 ^ 62 ∧ -(2 ^ 62) ≤ j ∧ j < 2 ^ 62) ∧ R (Itr i (j - i).toNat) H1) : iRng2 t σ H R := h
theorem rd_rng1e {i : Int} {R : Int → Prop} (h1 : -(2 ^ 62) ≤ i) (h2 : i < 2 ^ 62) (h : R i) : ∃ j : Int, [V.int i] = [.int j] ∧ -(2 ^ 62) ≤ j ∧ j < 2 ^ 62 ∧ R j := ⟨i, rfl, h1, h2, h⟩
theorem rd_rng2e {i j : Int} {R : Int → Int → Prop} (h1 : -(2 ^ 62) ≤ i ∧ i < 2 ^ 62 ∧ -(2 ^ 62) ≤ j ∧ j < 2 ^ 62) (h : R i j) : ∃ i' j' : Int, [V.int i, V.int j] = [.int i', .int j'] ∧ (-(2 ^ 62) ≤ i' ∧ i' < 2 ^ 62 ∧ -(2 ^ 62) ≤ j' ∧ j' < 2 ^ 62) ∧ R i' j' := ⟨i, j, rfl, h1, h⟩
theorem rd_gtup {n : Nat} {t : TGs} {a : Addr} {xs : List V} {R : St → Hp → Prop} (s : SqT K H a xs) (l : xs.length = n) (h : t xs σ H R) : gTup K n t (.ref a) σ H R := ⟨a, xs, rfl, s, l, h⟩
theorem rd_gcons {t : TG} {u : TGs} {v : V} {r : List V} {R : St → Hp → Prop} (h : t v σ H fun σ' H' => u r σ' H' R) : gCons t u (v :: r) σ H R := ⟨v, r, rfl, h⟩
theorem rd_gnil {R : St → Hp → Prop} (h : R σ H) : gNil [] σ H R := ⟨rfl, h⟩
theorem st0 {N : List Str} {vs : List V} {t : TS} (σ : St) (e : L2.start N vs = σ) (h : t D σ H) : t D (L2.start N vs) H := by rw [e]; exact h
end
end Mine
namespace Mine
open PySem PySem.Spec L2
section
variable {g : TG} {tb : TS} {n : St → Hp → Prop} {rt : VK} {σ : St} {H : Hp} {K : PySem.W.Frag} {a : Addr} {xs : List V}
theorem forR {lo : Int} {m : Nat} (Pv : Nat → St → Hp → Prop) (h0 : Pv 0 σ H)
    (hs : ∀ i σ H, i < m → Pv i σ H → g (.int (lo + i)) σ H fun σ2 H2 => tb ⟨Pv (i + 1), rt, n, Pv (i + 1)⟩ σ2 H2) (hd : ∀ σ H, Pv m σ H → n σ H) :
    ∃ W : Nat → Nat → St → Hp → Prop, (∃ m, W 0 m σ H) ∧ ∀ i m' σ H, W i m' σ H →
      ((Itr lo m).stop i H ∧ n σ H) ∨ ((Itr lo m).go i H ∧ ∃ N : St → Hp → Prop, (∀ σ' H', N σ' H' → ∃ m'', m'' < m' ∧ W (i + 1) m'' σ' H') ∧ ∀ x H', (Itr lo m).yld i H x H' → g x σ H' fun σ2 H2 => tb ⟨N, rt, n, N⟩ σ2 H2) :=
  for_range (D := ⟨n, rt, fun _ _ => False, fun _ _ => False⟩) Pv h0 hs hd
theorem forL (Pv : Nat → St → Hp → Prop) (h0 : Pv 0 σ H) (hl : ∀ i σ H, i ≤ xs.length → Pv i σ H → SqL K H a xs)
    (hs : ∀ i x σ H, xs[i]? = some x → Pv i σ H → g x σ H fun σ2 H2 => tb ⟨Pv (i + 1), rt, n, Pv (i + 1)⟩ σ2 H2) (hd : ∀ σ H, Pv xs.length σ H → n σ H) :
    ∃ W : Nat → Nat → St → Hp → Prop, (∃ m, W 0 m σ H) ∧ ∀ i m σ H, W i m σ H →
      ((Itl K a).stop i H ∧ n σ H) ∨ ((Itl K a).go i H ∧ ∃ N : St → Hp → Prop, (∀ σ' H', N σ' H' → ∃ m', m' < m ∧ W (i + 1) m' σ' H') ∧ ∀ x H', (Itl K a).yld i H x H' → g x σ H' fun σ2 H2 => tb ⟨N, rt, n, N⟩ σ2 H2) :=
  for_list (D := ⟨n, rt, fun _ _ => False, fun _ _ => False⟩) Pv h0 hl hs hd
theorem forT (Pv : Nat → St → Hp → Prop) (h0 : Pv 0 σ H) (hl : ∀ i σ H, i ≤ xs.length → Pv i σ H → SqT K H a xs)
    (hs : ∀ i x σ H, xs[i]? = some x → Pv i σ H → g x σ H fun σ2 H2 => tb ⟨Pv (i + 1), rt, n, Pv (i + 1)⟩ σ2 H2) (hd : ∀ σ H, Pv xs.length σ H → n σ H) :
    ∃ W : Nat → Nat → St → Hp → Prop, (∃ m, W 0 m σ H) ∧ ∀ i m σ H, W i m σ H →
      ((Itt K a).stop i H ∧ n σ H) ∨ ((Itt K a).go i H ∧ ∃ N : St → Hp → Prop, (∀ σ' H', N σ' H' → ∃ m', m' < m ∧ W (i + 1) m' σ' H') ∧ ∀ x H', (Itt K a).yld i H x H' → g x σ H' fun σ2 H2 => tb ⟨N, rt, n, N⟩ σ2 H2) :=
  for_tup (D := ⟨n, rt, fun _ _ => False, fun _ _ => False⟩) Pv h0 hl hs hd
theorem rd_lc {wi : TI} {tt : TT} {te : TE} {vs : List Nat} {Q : VK} (h : wi σ H fun J H1 => ∀ D, H1 D = none → ∃ W : Nat → Nat → Hp → Prop, (∃ m, W 0 m (upd H1 D (.lst []))) ∧ ∀ i m H, W i m H →
  (J.stop i H ∧ Q (.ref D) H) ∨ (J.go i H ∧ ∃ Nx : Hp → Prop, (∀ H', Nx H' → ∃ m', m' < m ∧ W (i + 1) m' H') ∧ ∀ x H', J.yld i H x H' → g x (wipe σ vs) H' fun σ2 H2 => wipe σ2 vs = wipe σ vs ∧ tt σ2 H2 fun b H3 =>
    if b = true then te σ2 H3 fun y H4 => ∃ acc, H4 D = some (.lst acc) ∧ acc.length < sizeLine ∧ Nx (upd H4 D (.lst (acc ++ [y]))) else Nx H3)) : tLc wi g tt te vs σ H Q := h
theorem rd_yes {R : Bool → Hp → Prop} (h : R true H) : tYes σ H R := h
/-- a while -/
theorem rd_while {c : TT} {bk ct : St → Hp → Prop} (Pv : Nat → St → Hp → Prop) (m0 : Nat) (h0 : Pv m0 σ H)
    (hs : ∀ m σ H, Pv m σ H → c σ H fun b H1 => if b = true then (∃ N : St → Hp → Prop, (∀ σ' H', N σ' H' → ∃ m', m' < m ∧ Pv m' σ' H') ∧ tb ⟨N, rt, n, N⟩ σ H1) else n σ H1) :
    tWhile c tb ⟨n, rt, bk, ct⟩ σ H := ⟨Pv, ⟨m0, h0⟩, hs⟩
end
end Mine

/-! ### Kit5 -/
namespace Mine
open PySem PySem.Spec L2
/-! ## a list or a tuple that is walked -/
section
variable {X : Cx} (K : PySem.W.Frag) {tg e : Expr} {te : TE}
def iSeq (K : PySem.W.Frag) (tl : TE) : TI := fun σ H R => tl σ H fun x H1 => ∃ a, x = .ref a ∧ (((∃ xs, SqL K H1 a xs) ∧ R (Itl K a) H1) ∨ ((∃ xs, SqT K H1 a xs) ∧ R (Itt K a) H1))
theorem pi_seqK (he : PE X e te) (h : X.K = K := by rfl) : PI X tg e (iSeq K te) := by
  subst h
  refine ⟨fun pins s σ H R I h => ?_⟩
  refine thn (he.run pins s σ H _ I h) fun v s1 ⟨x, H1, I1, r1, a, ex, q⟩ => ?_
  subst ex
  cases r1
  have it : ∀ b, b ∈ [s1.heap.objs.size] → FpOk X pins H1 b := fun b hb => by
    obtain rfl : b = s1.heap.objs.size := by simpa using hb
    exact I1.fpOk (Nat.le_refl _) (I1.hok.fresh (Nat.le_refl _))
  rcases q with ⟨⟨xs, hx⟩, q⟩ | ⟨⟨xs, hx⟩, q⟩
  · obtain ⟨its, rv, p, hz⟩ := I1.list hx
    exact wpAny_pyIter_list p.isList ⟨s1.heap.objs.size, [s1.heap.objs.size], _, _, H1, rfl, I1.kept (t' := s1.toks) fun b o e => Heap.get?_push_of_some _ e, turn_list a _, ⟨_, Heap.get?_push_size _ rfl, rfl, rfl⟩, it, q⟩
  · obtain ⟨its, rv, p, hz⟩ := I1.tuple hx
    exact wpAny_pyIter_tuple (show s1.heap.IsTuple a its.toArray from p) ⟨s1.heap.objs.size, [s1.heap.objs.size], _, _, H1, rfl, I1.kept (t' := s1.toks) fun b o e => Heap.get?_push_of_some _ e, turn_tuple a _, ⟨_, Heap.get?_push_size _ rfl, rfl, rfl⟩, it, q⟩
theorem kAll (hc : X.calm = true) (h : X.K = K := by rfl) : CallR X (.builtin "all") (rAll K) := by subst h; exact cr_all hc
theorem kAny (hc : X.calm = true) (h : X.K = K := by rfl) : CallR X (.builtin "any") (rAny K) := by subst h; exact cr_any hc
end
section
variable {K : PySem.W.Frag} {σ : St} {H : Hp} {Q : VK} {te : TE} {a : Addr} {xs : List V}
theorem rd_iSeq {R : It → Hp → Prop} (h : te σ H fun x H1 => ∃ a, x = .ref a ∧ (((∃ xs, SqL K H1 a xs) ∧ R (Itl K a) H1) ∨ ((∃ xs, SqT K H1 a xs) ∧ R (Itt K a) H1))) : iSeq K te σ H R := h
theorem rd_seqL {R1 R2 : Addr → Prop} (s : SqL K H a xs) (h : R1 a) : ∃ a', V.ref a = .ref a' ∧ (((∃ xs, SqL K H a' xs) ∧ R1 a') ∨ ((∃ xs, SqT K H a' xs) ∧ R2 a')) := ⟨a, rfl, .inl ⟨⟨xs, s⟩, h⟩⟩
theorem rd_seqT {R1 R2 : Addr → Prop} (s : SqT K H a xs) (h : R2 a) : ∃ a', V.ref a = .ref a' ∧ (((∃ xs, SqL K H a' xs) ∧ R1 a') ∨ ((∃ xs, SqT K H a' xs) ∧ R2 a')) := ⟨a, rfl, .inr ⟨⟨xs, s⟩, h⟩⟩
theorem rd_istr {R : It → Hp → Prop} (h : te σ H fun v H1 => ∃ x, v = .str x ∧ R (Its x) H1) : iStr te σ H R := h
theorem rd_istrE {z : Str} {R : Str → Prop} (h : R z) : ∃ x, V.str z = .str x ∧ R x := ⟨z, rfl, h⟩
theorem u_all {bs : List Bool} (s : SqL K H a (bs.map V.bl)) (h : Q (.bl (bs.all id)) H) : rAll K [.ref a] H Q := ⟨a, bs, rfl, s, h⟩
end
/-- a text walked in a comprehension -/
theorem lcS {x : Str} {g : TG} {tt : TT} {te : TE} {vs : List Nat} {σ : St} {H1 : Hp} {D : Addr} {Qd : Hp → Prop} (Pv : Nat → Hp → Prop) (h0 : Pv 0 (upd H1 D (.lst [])))
    (hs : ∀ i c H, x.cps[i]? = some c → Pv i H → g (.str ⟨#[c]⟩) (wipe σ vs) H fun σ2 H2 => wipe σ2 vs = wipe σ vs ∧ tt σ2 H2 fun b H3 =>
      if b = true then te σ2 H3 fun y H4 => ∃ acc, H4 D = some (.lst acc) ∧ acc.length < sizeLine ∧ Pv (i + 1) (upd H4 D (.lst (acc ++ [y]))) else Pv (i + 1) H3) (hd : ∀ H, Pv x.cps.size H → Qd H) :
    ∃ W : Nat → Nat → Hp → Prop, (∃ m, W 0 m (upd H1 D (.lst []))) ∧ ∀ i m H, W i m H →
      ((Its x).stop i H ∧ Qd H) ∨ ((Its x).go i H ∧ ∃ Nx : Hp → Prop, (∀ H', Nx H' → ∃ m', m' < m ∧ W (i + 1) m' H') ∧ ∀ v H', (Its x).yld i H v H' → g v (wipe σ vs) H' fun σ2 H2 => wipe σ2 vs = wipe σ vs ∧ tt σ2 H2 fun b H3 =>
        if b = true then te σ2 H3 fun y H4 => ∃ acc, H4 D = some (.lst acc) ∧ acc.length < sizeLine ∧ Nx (upd H4 D (.lst (acc ++ [y]))) else Nx H3) := by
  refine ⟨fun i m H => m = x.cps.size - i ∧ i ≤ x.cps.size ∧ Pv i H, ⟨x.cps.size, by simp, Nat.zero_le _, h0⟩, ?_⟩
  rintro i m H ⟨rfl, hi, p⟩
  by_cases hlt : i < x.cps.size
  · refine .inr ⟨hlt, Pv (i + 1), fun H' p' => ⟨x.cps.size - (i + 1), by omega, rfl, hlt, p'⟩, fun v H' y => ?_⟩
    obtain ⟨e, c, hc, ev⟩ := y
    subst e ev
    exact hs i c _ hc p
  · obtain rfl : i = x.cps.size := by omega
    exact .inl ⟨Nat.le_refl _, hd H p⟩
/-! ## isinstance of data -/
def isT (n : String) : PyData → Bool
  | .none => n == "NoneType"
  | .bool _ => n == "bool" || n == "int"
  | .int _ => n == "int"
  | .str _ => n == "str"
  | .tuple _ => n == "tuple"
  | _ => false
theorem tyx_tup {K : PySem.W.Frag} {H : Hp} {a : Addr} {xs : List V} (h : SqT K H a xs) : TyX K H (.ref a) (.type "tuple") := by
  rcases h with (h | ⟨o, h⟩) | ⟨o, its, n, e, c, _⟩
  · exact .base (.tup h)
  · exact .fTuple h
  · exact .kTuple e c
theorem u_isi {K : PySem.W.Frag} {H : Hp} {Q : VK} {v : V} {d : PyData} {n : String} (hn : n = "int" ∨ n = "str" ∨ n = "tuple" ∨ n = "bool") (r : Rp K H v d) (h : Q (.bl (isT n d)) H) : rIsi K [v, .ty n] H Q := by
  cases r with
  | non => rcases hn with rfl | rfl | rfl | rfl <;> exact ⟨_, _, _, _, _, rfl, .ty _, .base .non, kit_ty (by simp only [isT]; decide +kernel), h⟩
  | bl b => rcases hn with rfl | rfl | rfl | rfl <;> exact ⟨_, _, _, _, _, rfl, .ty _, .base (.bl b), kit_ty (by simp only [isT]; decide +kernel), h⟩
  | int i => rcases hn with rfl | rfl | rfl | rfl <;> exact ⟨_, _, _, _, _, rfl, .ty _, .base (.int i), kit_ty (by simp only [isT]; decide +kernel), h⟩
  | str z => rcases hn with rfl | rfl | rfl | rfl <;> exact ⟨_, _, _, _, _, rfl, .ty _, .base (.str z), kit_ty (by simp only [isT]; decide +kernel), h⟩
  | tup s _ => rcases hn with rfl | rfl | rfl | rfl <;> exact ⟨_, _, _, _, _, rfl, .ty _, tyx_tup s, kit_ty (by simp only [isT]; decide +kernel), h⟩
end Mine

/-! ### Kit6 -/
namespace L2
open PySem PySem.Spec PyProof.Rows
/-! ## several except clauses, with names or without -/
abbrev Cl := Value × Option Nat × (Addr → Value → Option Addr → TS)
def endsAt (D : Ends) : Option Nat → Ends
  | none => D
  | some i => { nx := fun σ' H' => D.nx (σ'.set i none) H', rt := D.rt, bk := fun σ' H' => D.bk (σ'.set i none) H', ct := fun σ' H' => D.ct (σ'.set i none) H' }
def stAt (σ : St) (a : Addr) : Option Nat → St
  | none => σ
  | some i => σ.set i (some (.ref a))
def wMix (K : PySem.W.Frag) (Wout : WX) (D : Ends) : List Cl → WX
  | [] => Wout
  | (c, o, ts) :: r => fun cls d σ H => ∃ b, PySem.W.exmOne K cls c = some b ∧ (b = true → ∀ a, H a = none → ts a cls d (endsAt D o) (stAt σ a o) H) ∧ (b = false → wMix K Wout D r cls d σ H)
inductive Hds (X : Cx) : List ExceptHandler → List Cl → Prop
  | nil : Hds X [] []
  | plain {x : Str} {c : Value} {ts : Addr → Value → Option Addr → TS} {b₀ : Stmt} {suite : List Stmt} {np pos' : Pos} {hds : List ExceptHandler} {l : List Cl} (hc : Names X x c)
      (hsu : ∀ (a : Addr) (oe : Obj) (cls : Value) (d : Option Addr) (pn : List (Addr × Obj)), Zc cls d oe → (∃ vs, oe.data = .fields vs) → PSs (X.suite a ((a, oe) :: pn)) (b₀ :: suite) (ts a cls d)) (r : Hds X hds l) :
      Hds X (.ExceptHandler (some (.Name x np)) none (b₀ :: suite) pos' :: hds) ((c, none, ts) :: l)
  | named {x n : Str} {i : Nat} {c : Value} {ts : Addr → Value → Option Addr → TS} {b₀ : Stmt} {suite : List Stmt} {np pos' : Pos} {hds : List ExceptHandler} {l : List Cl} (hc : Names X x c) (hN : X.N.Nodup) (hi : X.N[i]? = some n) (hln : X.env.kindOf n = some .local)
      (hsu : ∀ (a : Addr) (oe : Obj) (cls : Value) (d : Option Addr) (pn : List (Addr × Obj)), Zc cls d oe → (∃ vs, oe.data = .fields vs) → PSs (X.suite a ((a, oe) :: pn)) (b₀ :: suite) (ts a cls d)) (r : Hds X hds l) :
      Hds X (.ExceptHandler (some (.Name x np)) (some n) (b₀ :: suite) pos' :: hds) ((c, some i, ts) :: l)
section
variable {X : Cx} {body : List Stmt} {h₀ : ExceptHandler} {hds : List ExceptHandler} {l : List Cl} {pos : Pos} {tb : WX → TS} {Wout : WX}
theorem ps_try_mix (hs : X.stack = X.env :: X.outer) (hf : X.env.frame = some X.env.locals) (tk : Takes X Wout)
    (hb : ∀ (W : WX) (pn : List (Addr × Obj)) (xe : Value → Shared → Prop), Takes (X.tr pn xe) W → PassesOwn (model X.prog X.w) X.A X.env xe → PSs (X.tr pn xe) body (tb W))
    (K : PySem.W.Frag) (hK : X.K = K) (hh : Hds X (h₀ :: hds) l) : PS X (.Try body (h₀ :: hds) [] [] pos) (fun D σ H => tb (wMix K Wout D l) D σ H) := by
  subst hK
  refine ⟨fun pins s σ H D I h => ?_⟩
  have ok := I.ok
  have hfr : X.A.frames = some (X.env :: X.outer) := by rw [ok.frames, hs]
  refine wpAny_Try_except ?_
  refine wpAny_mono ((hb (wMix X.K Wout D l) (X.pn ++ pins) (fun e s₁ => wpAny (model X.prog X.w) X.A (noteFrame e X.env) (fun _ s₂ => wpAny (model X.prog X.w) X.A (setFlight e none) (fun _ s₃ =>
    wpAny (model X.prog X.w) X.A (handleBy e X.env (h₀ :: hds)) (SP X pins D) X.xe s₃) X.xe s₂) X.xe s₁) (fun u s' xx => ?_) PassesOwn.looking).run [] s σ H D (I.toTry _) h) (fun f s1 hsp => ?_) (fun e s1 he => he)
  · obtain ⟨a, B, sI, pins', σ', H', cls, d, rfl, J', nb, up, sky, na, os, ag, w⟩ := xx
    have J : Inv X pins σ' H' sI := J'.ofTry ok
    have sky' : Sky B (X.env :: X.outer) a (Zc cls d) X.env.locals s'.heap := by rw [← hs]; exact sky
    show wpAny (model X.prog X.w) X.A (noteFrame (.ref a) X.env) _ _ _
    refine Sky.land Zc.steady hfr hf sky' fun h3 fl3 up3 => ?_
    have J3 : Inv X pins σ' H' { s' with heap := h3 } := J.landed nb fl3.1 (up.trans up3) os ag
    obtain ⟨oe3, vs3, he3, hz3, hd3⟩ := fl3.there
    have notFr : ∀ {h : Heap} {o : Obj} {vs : Array Value}, h.FunFrames B (X.env :: X.outer) → h.get? a = some o → o.data = .fields vs → a ∉ frs (X.env :: X.outer) := fun {h o vs} ff e dd hm => by
      obtain ⟨_, o', e', hnf⟩ := ff.mem hm
      rw [e] at e'; cases e'
      exact hnf _ dd
    have nfr := notFr fl3.2.2.1 he3 hd3
    have nL : a ≠ X.env.locals := fun z => nfr (List.mem_filterMap.mpr ⟨X.env, List.mem_cons_self, by rw [hf, z]⟩)
    have nF : a ∉ X.fs := fun hm => by
      obtain ⟨e, he, q⟩ := List.mem_filterMap.mp hm
      exact nfr (List.mem_filterMap.mpr ⟨e, List.mem_cons_of_mem _ he, q⟩)
    have S3 := J3.suite he3 hd3 na nL nF
    have LT : PySem.W.Looks (model X.prog X.w) h3 (typeOf (.ref a)) cls := fun A Q E s k q => wpAny_typeOf_ref (k _ _ he3) (by rw [hz3.1]; exact q)
    have test : ∀ {x : Str} {c : Value} {np : Pos}, Names X x c → ∀ {Q : Value → Shared → Prop} {E : Value → Shared → Prop}, Q c { s' with heap := h3 } → wpAny (model X.prog X.w) (X.A.mark (some (.ref a))) (eval (.Name x np) X.env) Q E { s' with heap := h3 } := fun {x c np} hc {Q E} q => by
      obtain ⟨hg, hdbg, hm | ⟨hm, hv, hnn⟩⟩ := hc
      · exact ld_glob (X := X.suite a ((a, oe3) :: (X.pn ++ pins))) S3 hg hm q hdbg
      · exact ld_blt (X := X.suite a ((a, oe3) :: (X.pn ++ pins))) S3 hg hm hv q hnn hdbg
    have go : ∀ {hds' : List ExceptHandler} {l' : List Cl}, Hds X hds' l' → wMix X.K Wout D l' cls d σ' H' →
        wpAny (model X.prog X.w) X.A (handleBy (.ref a) X.env hds') (SP X pins D) X.xe { s' with heap := h3 } := by
      intro hds' l' hk
      induction hk with
      | nil =>
        intro w
        refine wpAny_handleBy_nil ?_
        obtain ⟨k1, k2, k3, oe, vs, T, oT, ts', he, hz, hd, h1, hr⟩ := id fl3
        unfold PySem.passOn
        refine wpAny_bind (wpAny_field he hd h1 ?_)
        rw [if_neg (show ¬ ((Value.ref T == Value.none) = true) from by simp)]
        have fin : wpAny (model X.prog X.w) X.A (setFlight (.ref a) X.env.frame) (fun _ s4 => wpAny (model X.prog X.w) X.A (throw (.ref a) : Sem Flow) (SP X pins D) X.xe s4) X.xe { s' with heap := h3 } := by
          rw [hf]
          refine HandSPX.setFlight_upZ fl3 fun h4 hh4 up4 => wpAny_throw (tk _ _ ?_)
          exact ⟨a, B, sI, pins, σ', H', cls, d, rfl, J, nb, (up.trans up3).trans up4, .inr (.inr (by rw [hs]; exact hh4)), na, os, ag, w⟩
        first
          | exact wpAny_bind (wpAny_pure (wpAny_bind fin))
          | exact wpAny_bind fin
      | @plain x c ts b₀ suite np pos' hds2 l2 hc hsu r ih =>
        intro w
        obtain ⟨b, hb1, hyes, hno⟩ := w
        have LM := PySem.W.exm_one (M := model X.prog X.w) (J3.kIn) LT hb1
        refine wpAny_handleBy_cons (codeAny_handlers_test ?_) (by intro q; cases q)
        refine test hc (LM.here ?_)
        cases b with
        | true =>
          refine codeAny_handlers_suite ?_
          refine HandSPX.lands_againZ fl3 fun h4 fl4 up4 => ?_
          have J4 : Inv X pins σ' H' { s' with heap := h4 } := J.landed nb fl4.1 ((up.trans up3).trans up4) os ag
          obtain ⟨oe4, vs4, he4, hz4, hd4⟩ := fl4.there
          have S4 := J4.suite he4 hd4 na nL nF
          refine wpAny_mono ((hsu a oe4 cls d (X.pn ++ pins) hz4 ⟨_, hd4⟩).run [] _ _ H' _ S4 (hyes rfl a na)) (fun f s6 hsp => ?_) (fun _ _ z => False.elim z)
          cases f with
          | next =>
            obtain ⟨σ6, H6, S6, q6⟩ := hsp
            exact ⟨_, _, S6.unsuite ok, q6⟩
          | brk =>
            obtain ⟨σ6, H6, S6, q6⟩ := hsp
            exact ⟨_, _, S6.unsuite ok, q6⟩
          | cont =>
            obtain ⟨σ6, H6, S6, q6⟩ := hsp
            exact ⟨_, _, S6.unsuite ok, q6⟩
          | ret u =>
            obtain ⟨v6, σ6, H6, S6, r6, q6⟩ := hsp
            exact ⟨_, _, _, S6.unsuite ok, r6, q6⟩
        | false =>
          show wpAny _ X.A (handleBy (.ref a) X.env hds2) _ _ _
          exact ih (hno rfl)
      | @named x n i c ts b₀ suite np pos' hds2 l2 hc hN hi hln hsu r ih =>
        intro w
        obtain ⟨b, hb1, hyes, hno⟩ := w
        have LM := PySem.W.exm_one (M := model X.prog X.w) (J3.kIn) LT hb1
        have hloc : Loc X.env.scope n := .inl hln
        refine wpAny_handleBy_cons (codeAny_handlers_test ?_) (by intro q; cases q)
        refine test hc (LM.here ?_)
        cases b with
        | true =>
          refine codeAny_handlers_suite_as ?_
          refine HandSPX.lands_againZ fl3 fun h4 fl4 up4 => ?_
          have J4 : Inv X pins σ' H' { s' with heap := h4 } := J.landed nb fl4.1 ((up.trans up3).trans up4) os ag
          obtain ⟨oe4, vs4, he4, hz4, hd4⟩ := fl4.there
          have S4 := J4.suite he4 hd4 na nL nF
          refine store_ok (X := X.suite a ((a, oe4) :: (X.pn ++ pins))) (v := .ref a) S4 hN hi hloc rfl (fun s5 S5 => ?_) (.inr hln)
          refine wpAny_mono ((hsu a oe4 cls d (X.pn ++ pins) hz4 ⟨_, hd4⟩).run [] s5 _ H' _ S5 (hyes rfl a na)) (fun f s6 hsp => ?_) (fun _ _ z => False.elim z)
          have end_ : ∀ {σ6 : St} {H6 : Hp} {Q : Shared → Prop}, Inv (X.suite a ((a, oe4) :: (X.pn ++ pins))) [] σ6 H6 s6 → (∀ s7, Inv X pins (σ6.set i none) H6 s7 → Q s7) →
              wpAny (model X.prog X.w) X.A (do bindName X.env n .none; unbindBehindTheSuite X.env n pos') (fun _ s7 => Q s7) X.xe s6 := fun {σ6 H6 Q} S6 hq => gone_ok (S6.unsuite ok) hN hi hln hq
          cases f with
          | next =>
            obtain ⟨σ6, H6, S6, q6⟩ := hsp
            exact end_ S6 fun s7 J7 => ⟨_, _, J7, q6⟩
          | brk =>
            obtain ⟨σ6, H6, S6, q6⟩ := hsp
            exact end_ S6 fun s7 J7 => ⟨_, _, J7, q6⟩
          | cont =>
            obtain ⟨σ6, H6, S6, q6⟩ := hsp
            exact end_ S6 fun s7 J7 => ⟨_, _, J7, q6⟩
          | ret u =>
            obtain ⟨v6, σ6, H6, S6, r6, q6⟩ := hsp
            exact end_ S6 fun s7 J7 => ⟨_, _, _, J7, r6, q6⟩
        | false =>
          show wpAny _ X.A (handleBy (.ref a) X.env hds2) _ _ _
          exact ih (hno rfl)
    exact go hh w
  · cases f with
    | next =>
      obtain ⟨σ', H', J', q⟩ := hsp
      exact wpAny_execs_nil ⟨σ', H', J'.ofTry ok, q⟩
    | brk =>
      obtain ⟨σ', H', J', q⟩ := hsp
      exact ⟨σ', H', J'.ofTry ok, q⟩
    | cont =>
      obtain ⟨σ', H', J', q⟩ := hsp
      exact ⟨σ', H', J'.ofTry ok, q⟩
    | ret u =>
      obtain ⟨v, σ', H', J', r, q⟩ := hsp
      exact ⟨v, σ', H', J'.ofTry ok, r, q⟩
end
end L2

/-! ### Kit7 -/
namespace Mine
open PySem PySem.Spec L2
/-! ## own errors over ValueError, made by the __init__ of their root: self.what = what -/
def spInit (K : PySem.W.Frag) : Sp := fun vs H Q _ => ∃ (a C : Addr) (v : V), vs = [.ref a, v] ∧ OexC K C ∧ PySem.W.findIn K (.ref C) "what" = some none ∧ H a = some (exo a C none) ∧
  ∀ dx, H dx = none → dx ≠ a → Q .non (upd (upd H dx (exd dx [("what", v)])) a (exo a C (some dx)))
/-- what the written part says of the error class of the name x -/
structure ErrC (K : PySem.W.Frag) (mg : Str → Option Value) (fI : Addr) (x : Str) (C : Addr) : Prop where
  g : mg x = some (.ref C)
  c : OexC K C
  n : PySem.W.findIn K (.ref C) "what" = some none
  i : PySem.W.findIn K (.ref C) "__init__" = some (some (.ref fI))
  f : XfC K C
/-- the root's __init__ -/
def InitF (P : Program) (w : World) (K : PySem.W.Frag) (mg : Str → Option Value) (base : Heap) (fI : Addr) : Prop :=
  PySem.W.typeIn K (.ref fI) = some (.type "function") ∧ ∃ fd : FuncData, FnOk P w K mg base CX0 1 fI fd ["self", "what"] (spInit K) ∧ Binds K fd ["self", "what"] []
theorem has_init {P : Program} {w : World} {K : PySem.W.Frag} {mg : Str → Option Value} {base : Heap} {fI : Addr} {fd : FuncData} {st : Stmt} {qual : Str} (F : Fun K "__init__" qual st fI fd) (hS : FnScope ["self", "what"] ["self", "what"] (defScope st))
    (hb : ∀ (kV doc pm : Value) (an : Option Addr) (cdv ct : Value) (us : List Value), us.length = 2 → bindArgs (PySem.W.fnOf "__init__" qual (defArgs st) (defBody st) (defScope st) .none kV doc pm an cdv ct) ⟨us, []⟩ = pure ((["self", "what"] : List Str).zip us))
    (ht : PySem.W.typeIn K (.ref fI) = some (.type "function"))
    (body : ∀ (cdv : Value) (A : Around) (outer : List Env) (s : Shared) (H : Hp) (E : XK), PSs (cxOf CX0 P w K mg base ["self", "what"] qual (defScope st) fI cdv A outer s H E).nox (defBody st) (tOst K "what" (tVar 0) (tVar 1))) :
    InitF P w K mg base fI := by
  refine ⟨ht, fd, ?_, F.binds hb⟩
  refine F.ok (k := 0) hS (fun vs H Q E h => ?_) (fun cdv A outer s H vs Q E hr h => ⟨_, body cdv A outer s H E, ?_⟩)
  · obtain ⟨a, C, v, rfl, _⟩ := h
    rfl
  obtain ⟨a, C, v, rfl, hc, hn, ha, q⟩ := h
  exact ⟨v, rfl, .ref a, rfl, a, C, rfl, hc, hn, .inl ⟨ha, q⟩⟩
section
variable {X : Cx} {W : WX}
/-- what the making of x(v) asks -/
def RaiseAt (K : PySem.W.Frag) (C : Addr) (W : WX) (σ : St) (v : V) (H1 : Hp) : Prop := [v].length ≤ 1000 ∧ ∀ a, H1 a = none → spInit K (.ref a :: ([v] ++ [])) (upd H1 a (exo a C none))
  (fun u H2 => u = .non ∧ ∃ (d : Addr) (fs : List (Str × V)), H2 a = some (exo a C (some d)) ∧ H2 d = some (exd d fs) ∧ H1 d = none ∧ W (.ref C) (some d) σ (upd (del H2 a) d (.xd fs))) (fun _ _ _ => False)
def tRaiseE (K : PySem.W.Frag) (C : Addr) (W : WX) (te : TE) : TS := fun _ σ H => te σ H fun v H1 => RaiseAt K C W σ v H1
theorem ps_raiseE {fI C : Addr} {x : Str} {p pos pos2 : Pos} {e : Expr} {te : TE} (K : PySem.W.Frag) (hI : InitF X.prog X.w X.K X.mg X.base fI) (M : ErrC X.K X.mg fI x C) (hc : X.calm = true) (hr : Room 2 X.A) (tk : Takes X W) (he : PE X e te) (hg : Gl X x) (hK : X.K = K := by rfl)
    (hs : starEach [e] X.env = (false, eval e X.env) :: starEach [] X.env := by rfl) (hpl : (backTo pos (starEach [] X.env)).any (·.1) = false := by rfl) (hdb : (x == ("__debug__" : Str)) = false := by decide) :
    PS X (.Raise (some (.Call (.Name x p) [e] [] pos)) none pos2) (tRaiseE K C W te) := by
  subst hK
  obtain ⟨ht, fd, F, hb⟩ := hI
  exact ps_raise hc tk (pmk_oex (pos := pos) (p := p) (dvs := []) M.c M.i ht F hr hb .nil (fun _ _ _ _ _ _ _ z => z.elim) hg M.g (pa_cons he pa_nil hs) hdb hs hpl) (pos := pos2)
theorem rd_raiseE {K : PySem.W.Frag} {C : Addr} {te : TE} {D : Ends} {σ : St} {H : Hp} (h : te σ H fun v H1 => RaiseAt K C W σ v H1) : tRaiseE K C W te D σ H := h
theorem exd_ne_exo {a d C : Addr} {o : Option Addr} {fs : List (Str × V)} : True := trivial
theorem u_raise {K : PySem.W.Frag} {C : Addr} {σ : St} {v : V} {H : Hp} (c : OexC K C) (n : PySem.W.findIn K (.ref C) "what" = some none) (h : ∀ d, H d = none → W (.ref C) (some d) σ (upd H d (.xd [("what", v)]))) : RaiseAt K C W σ v H := by
  refine ⟨by show 1 ≤ 1000; decide, fun a ha => ⟨a, C, v, rfl, c, n, upd_same, fun dx hdx hne => ⟨rfl, dx, [("what", v)], ?_, ?_, ?_, ?_⟩⟩⟩
  · exact upd_same
  · rw [upd_ne hne, upd_same]
  · rw [upd_ne hne] at hdx; exact hdx
  · have hd : H dx = none := by rw [upd_ne hne] at hdx; exact hdx
    have e : upd (del (upd (upd (upd H a (exo a C none)) dx (exd dx [("what", v)])) a (exo a C (some dx))) a) dx (.xd [("what", v)]) = upd H dx (.xd [("what", v)]) := by
      funext b
      by_cases h1 : b = dx
      · subst h1; rw [upd_same, upd_same]
      · rw [upd_ne h1, upd_ne h1]
        by_cases h2 : b = a
        · subst h2; rw [del_same, ha]
        · rw [del_ne h2, upd_ne h2, upd_ne h1, upd_ne h2]
    rw [e]
    exact h dx hd
end
/-- what leaves a def that may raise -/
theorem tkX {P : Program} {w : World} {K : PySem.W.Frag} {mg : Str → Option Value} {base : Heap} {N : List Str} {qual : Str} {scope : Scope} {f : Addr} {cd : Value} {A : Around} {outer : List Env} {s : Shared} {H : Hp} {E : XK} :
    Takes (cxOf (L2.CX P w) P w K mg base N qual scope f cd A outer s H E) (fun cls d _ H' => E cls d H') := takes_of rfl rfl rfl rfl
theorem poX {P : Program} {w : World} {K : PySem.W.Frag} {mg : Str → Option Value} {base : Heap} {N : List Str} {qual : Str} {scope : Scope} {f : Addr} {cd : Value} {A : Around} {outer : List Env} {s : Shared} {H : Hp} {E : XK} :
    PassesOwn (model P w) (cxOf (L2.CX P w) P w K mg base N qual scope f cd A outer s H E).A (cxOf (L2.CX P w) P w K mg base N qual scope f cd A outer s H E).env (cxOf (L2.CX P w) P w K mg base N qual scope f cd A outer s H E).xe := passes_of (X := cxOf (L2.CX P w) P w K mg base N qual scope f cd A outer s H E) rfl
/-! ## a dict of the module, text keys -/
/-- at x: a dict that tells g of a text -/
structure Tab (w : World) (K : PySem.W.Frag) (mg : Str → Option Value) (x : Str) (a : Addr) (g : Str → Option Value) : Prop where
  m : mg x = some (.ref a)
  d : ∃ es n, KDict K w a es n
  t : ∀ z, PySem.W.nsIn K a z = some (g z)
section
variable {X : Cx}
def rInD (a : Addr) (g : Str → Option Value) : R2 := fun x y H Q => ∃ z, x = .str z ∧ y = .ref a ∧ Q (.bl (g z).isSome) H
def rNotInD (a : Addr) (g : Str → Option Value) : R2 := fun x y H Q => ∃ z, x = .str z ∧ y = .ref a ∧ Q (.bl (!(g z).isSome)) H
theorem op_inD {x : Str} {a : Addr} {g : Str → Option Value} (T : Tab X.w X.K X.mg x a g) : OpR X (compareOp .In) (rInD a g) := by
  obtain ⟨es, n, D⟩ := T.d
  intro pins s σ H u y v v2 Q I rx ry h
  obtain ⟨z, rfl, rfl, q⟩ := h
  exact op_in_kd D pins s σ H _ _ v v2 Q I rx ry ⟨z, _, rfl, rfl, T.t z, q⟩
theorem op_notInD {x : Str} {a : Addr} {g : Str → Option Value} (T : Tab X.w X.K X.mg x a g) : OpR X (compareOp .NotIn) (rNotInD a g) := by
  obtain ⟨es, n, D⟩ := T.d
  intro pins s σ H u y v v2 Q I rx ry h
  obtain ⟨z, rfl, rfl, q⟩ := h
  exact op_notIn_kd D pins s σ H _ _ v v2 Q I rx ry ⟨z, _, rfl, rfl, T.t z, q⟩
def rIxT' (a : Addr) (g : Str → Option Value) : R2 := fun x y H Q => ∃ z u v, x = .ref a ∧ y = .str z ∧ g z = some u ∧ RelV v u ∧ Q v H
theorem ix_tab {x : Str} {a : Addr} {g : Str → Option Value} (T : Tab X.w X.K X.mg x a g) : IxR X (rIxT' a g) := by
  obtain ⟨es, n, D⟩ := T.d
  intro value slice pins s σ H u y v v2 Q I rx ry h hs
  obtain ⟨z, u0, v0, rfl, rfl, e, r, q⟩ := h
  exact ix_kdict value slice pins s σ H _ _ v v2 Q I rx ry ⟨a, z, v0, rfl, rfl, ⟨es, n, u0, D.at_, D.lit, by rw [T.t z, e], r⟩, q⟩ hs
theorem u_inD {a : Addr} {g : Str → Option Value} {z : Str} {H : Hp} {Q : VK} (h : Q (.bl (g z).isSome) H) : rInD a g (.str z) (.ref a) H Q := ⟨z, rfl, rfl, h⟩
theorem u_notInD {a : Addr} {g : Str → Option Value} {z : Str} {H : Hp} {Q : VK} (h : Q (.bl (!(g z).isSome)) H) : rNotInD a g (.str z) (.ref a) H Q := ⟨z, rfl, rfl, h⟩
theorem u_ixTab {a : Addr} {g : Str → Option Value} {z : Str} {u : Value} {v : V} {H : Hp} {Q : VK} (e : g z = some u) (r : RelV v u) (h : Q v H) : rIxT' a g (.ref a) (.str z) H Q := ⟨z, u, v, rfl, rfl, e, r, h⟩
/-- the call of a def that a local name holds -/
def tCallV (P : Program) (w : World) (K : PySem.W.Frag) (mg : Str → Option Value) (base : Heap) (k : Nat) (i : Nat) (t : TA) : TE := fun σ H Q => ∃ f sp, σ[i]? = some (some (.ref f)) ∧ Held P w K mg base k f sp ∧ t σ H fun vs H1 => sp vs H1 Q E0
theorem pe_callV {P : Program} {w : World} {K : PySem.W.Frag} {mg : Str → Option Value} {base : Heap} {k i : Nat} {x : Str} {p pos : Pos} {e : Expr} {es : List Expr} {t : TA} (h1 : X.prog = P) (h2 : X.w = w) (h3 : X.K = K) (h4 : X.mg = mg) (h5 : X.base = base) (hr : Room k X.A) (hN : X.N[i]? = some x) (hv : Vis X.env.scope x) (ha : PA X (e :: es) t)
    (hdb : (x == ("__debug__" : Str)) = false := by decide) (hcd : (x == ("__classdict__" : Str)) = false := by decide)
    (he : starEach (e :: es) X.env = (false, eval e X.env) :: starEach es X.env := by rfl) (hpl : (backTo pos (starEach es X.env)).any (·.1) = false := by rfl) : PE X (.Call (.Name x p) (e :: es) [] pos) (tCallV P w K mg base k i t) := by
  subst h1 h2 h3 h4 h5
  refine ⟨fun pins s σ H Q I h => ?_⟩
  obtain ⟨f, sp, hs, hH, ht⟩ := h
  obtain ⟨fd, ps, F, hk, hb⟩ := hH.ex
  refine (pe_callL (i := i) (f := f) (sp := sp) (dvs := []) (E := fun _ _ _ => False) F hr hN hv hk hb .nil (fun _ _ _ _ _ _ _ z => z.elim) ha hdb hcd he hpl).run pins s σ H Q I ⟨hs, ?_⟩
  have e0 : (fun (vs : List V) (H1 : Hp) => sp (vs ++ []) H1 Q (fun _ _ _ => False)) = fun vs H1 => sp vs H1 Q E0 := by
    funext vs H1; rw [List.append_nil]
  show t σ H (fun vs H1 => sp (vs ++ []) H1 Q (fun _ _ _ => False))
  rw [e0]
  exact ht
theorem rd_callV {P : Program} {w : World} {K : PySem.W.Frag} {mg : Str → Option Value} {base : Heap} {k i : Nat} {t : TA} {σ : St} {H : Hp} {Q : VK} {f : Addr} {sp : Sp} (e : σ[i]? = some (some (.ref f))) (hH : Held P w K mg base k f sp) (h : t σ H fun vs H1 => sp vs H1 Q E0) : tCallV P w K mg base k i t σ H Q := ⟨f, sp, e, hH, h⟩
theorem HasF.held {P : Program} {w : World} {K : PySem.W.Frag} {mg : Str → Option Value} {base : Heap} {k : Nat} {x : Str} {ps : List Str} {sp : Sp} (h : HasF P w K mg base CX0 k x ps sp) : ∃ f, mg x = some (.ref f) ∧ Held P w K mg base k f sp := by
  obtain ⟨f, fd, F, m, kp, b⟩ := h
  exact ⟨f, m, ⟨fd, ps, F, kp, b⟩⟩
theorem u_inS {K : PySem.W.Frag} {c : Nat} {z : Str} {H : Hp} {Q : VK} (h : Q (.bl (decide (c ∈ z.cps.toList))) H) : rInU K (.str ⟨#[c]⟩) (.str z) H Q := .inr ⟨c, z, rfl, rfl, h⟩
theorem u_notInS {K : PySem.W.Frag} {c : Nat} {z : Str} {H : Hp} {Q : VK} (h : Q (.bl (!decide (c ∈ z.cps.toList))) H) : rNotInU K (.str ⟨#[c]⟩) (.str z) H Q := .inr ⟨c, z, rfl, rfl, h⟩
end
section
variable {K : PySem.W.Frag} {H : Hp} {xs : List V} {ds : List PyData}
theorem Rps.none (h : Rps K H xs ds) (l : (xs.length : Int) = 0) : xs = [] ∧ ds = [] := by
  cases h with
  | nil => exact ⟨rfl, rfl⟩
  | cons a r => rw [List.length_cons] at l; omega
theorem Rps.only (h : Rps K H xs ds) (l : (xs.length : Int) = 1) : ∃ x d, xs = [x] ∧ ds = [d] ∧ Rp K H x d := by
  cases h with
  | nil => cases l
  | cons a r =>
    cases r with
    | nil => exact ⟨_, _, rfl, rfl, a⟩
    | cons b r => rw [List.length_cons, List.length_cons] at l; omega
theorem Rps.pair (h : Rps K H xs ds) (l : (xs.length : Int) = 2) : ∃ x y d e, xs = [x, y] ∧ ds = [d, e] ∧ Rp K H x d ∧ Rp K H y e := by
  cases h with
  | nil => cases l
  | cons a r =>
    cases r with
    | nil => cases l
    | cons b r =>
      cases r with
      | nil => exact ⟨_, _, _, _, rfl, rfl, a, b⟩
      | cons c r => rw [List.length_cons, List.length_cons, List.length_cons] at l; omega
theorem Rps.three (h : Rps K H xs ds) (l : (xs.length : Int) = 3) : ∃ x y z d e f, xs = [x, y, z] ∧ ds = [d, e, f] ∧ Rp K H x d ∧ Rp K H y e ∧ Rp K H z f := by
  cases h with
  | nil => cases l
  | cons a r =>
    cases r with
    | nil => cases l
    | cons b r =>
      cases r with
      | nil => cases l
      | cons c r =>
        cases r with
        | nil => exact ⟨_, _, _, _, _, _, rfl, rfl, a, b, c⟩
        | cons c2 r => rw [List.length_cons, List.length_cons, List.length_cons, List.length_cons] at l; omega
end
end Mine
namespace Mine
open PySem PySem.Spec L2
section
variable {σ : St} {H : Hp} {Q : VK} {te : TE}
theorem rd_retE {n bk ct : St → Hp → Prop} {rt : VK} {o : Option Nat} (h : te σ H rt) : tRet te (endsAt ⟨n, rt, bk, ct⟩ o) σ H := by cases o <;> exact h
theorem rd_xf {a C : Addr} {cls : Value} {d : Option Addr} {f : Str} (h : te σ H fun x H1 => x = .ref a ∧ cls = .ref C ∧ ∃ (dd : Addr) (fs : List (Str × V)) (v : V), d = some dd ∧ H1 dd = some (.xd fs) ∧ fs.lookup f = some v ∧ Q v H1) : tXf a cls d C f te σ H Q := h
theorem u_xf {a C dd : Addr} {cls : Value} {v : V} {R : V → Prop} (ec : cls = .ref C) (e : H dd = some (.xd [("what", v)])) (h : R v) : V.ref a = .ref a ∧ cls = .ref C ∧ ∃ (dd' : Addr) (fs : List (Str × V)) (v' : V), some dd = some dd' ∧ H dd' = some (.xd fs) ∧ fs.lookup ("what" : Str) = some v' ∧ R v' :=
  ⟨rfl, ec, dd, [("what", v)], v, rfl, e, by simp [List.lookup], h⟩
end
end Mine

/-! ### Kit8 -/
namespace Mine
open PySem PySem.Spec L2
section
variable {X : Cx}
/-! ## == and != of numbers, texts, data of any depth below 200 -/
def rEqG (K : PySem.W.Frag) : R2 := fun x y H Q => (scal x y = true ∧ Q (.bl (decide (x = y))) H) ∨
  ∃ d e, Dp K H x d ∧ Dp K H y e ∧ d.canLay0 = true ∧ e.canLay0 = true ∧ min d.depth e.depth ≤ 199 ∧ Q (.bl (PyData.eqv d e)) H
def rNeG (K : PySem.W.Frag) : R2 := fun x y H Q => (scal x y = true ∧ Q (.bl (!decide (x = y))) H) ∨
  ∃ d e, Dp K H x d ∧ Dp K H y e ∧ d.canLay0 = true ∧ e.canLay0 = true ∧ min d.depth e.depth ≤ 199 ∧ Q (.bl (!PyData.eqv d e)) H
theorem hU {k : Nat} {A : Around} (r : Room k A) : A.units + 200 < cLine := by have := r.un; omega
theorem kEqG (K : PySem.W.Frag) (hu : X.A.units + 200 < cLine) (h : X.K = K := by rfl) : OpR X (compareOp .Eq) (rEqG K) := by
  subst h
  refine op_eq.or ?_
  intro pins s σ H x y v u Q I rx ry h
  obtain ⟨d, e, hd, he, sd, se, dd, q⟩ := h
  obtain ⟨as, r1⟩ := Dp.reads I d x v hd rx
  obtain ⟨bs, r2⟩ := Dp.reads I e y u he ry
  exact SeqAt.compareEq_reads r1 r2 sd se (by omega) ⟨.bl _, H, I, rfl, q⟩
theorem kNeG (K : PySem.W.Frag) (hu : X.A.units + 200 < cLine) (h : X.K = K := by rfl) : OpR X (compareOp .NotEq) (rNeG K) := by
  subst h
  refine op_ne.or ?_
  intro pins s σ H x y v u Q I rx ry h
  obtain ⟨d, e, hd, he, sd, se, dd, q⟩ := h
  obtain ⟨as, r1⟩ := Dp.reads I d x v hd rx
  obtain ⟨bs, r2⟩ := Dp.reads I e y u he ry
  exact SeqAt.compareNe_reads r1 r2 sd se (by omega) ⟨.bl _, H, I, rfl, q⟩
end
section
variable {K : PySem.W.Frag} {H : Hp} {Q : VK} {i j : Int} {z z' : Str} {x y : V} {d e : PyData} {a : Addr} {xs : List V}
theorem dV_int : decide (V.int i = V.int j) = decide (i = j) := by
  by_cases c : i = j
  · rw [decide_eq_true c, decide_eq_true (congrArg V.int c)]
  · rw [decide_eq_false c, decide_eq_false (fun q => c (V.int.inj q))]
theorem dV_str : decide (V.str z = V.str z') = decide (z = z') := by
  by_cases c : z = z'
  · rw [decide_eq_true c, decide_eq_true (congrArg V.str c)]
  · rw [decide_eq_false c, decide_eq_false (fun q => c (V.str.inj q))]
theorem dV_bl {x y : Bool} : decide (V.bl x = V.bl y) = decide (x = y) := by cases x <;> cases y <;> rfl
theorem g_eqI (h : Q (.bl (decide (i = j))) H) : rEqG K (.int i) (.int j) H Q := .inl ⟨rfl, by rw [dV_int]; exact h⟩
theorem g_eqS (h : Q (.bl (decide (z = z'))) H) : rEqG K (.str z) (.str z') H Q := .inl ⟨rfl, by rw [dV_str]; exact h⟩
theorem g_neI (h : Q (.bl (!decide (i = j))) H) : rNeG K (.int i) (.int j) H Q := .inl ⟨rfl, by rw [dV_int]; exact h⟩
theorem g_neS (h : Q (.bl (!decide (z = z'))) H) : rNeG K (.str z) (.str z') H Q := .inl ⟨rfl, by rw [dV_str]; exact h⟩
theorem g_neB {x y : Bool} (h : Q (.bl (!decide (x = y))) H) : rNeG K (.bl x) (.bl y) H Q := .inl ⟨rfl, by rw [dV_bl]; exact h⟩
theorem g_eqD (hx : Dp K H x d) (hy : Dp K H y e) (c1 : d.canLay0 = true) (c2 : e.canLay0 = true) (dd : min d.depth e.depth ≤ 199) (h : Q (.bl (PyData.eqv d e)) H) : rEqG K x y H Q := .inr ⟨d, e, hx, hy, c1, c2, dd, h⟩
theorem g_neD (hx : Dp K H x d) (hy : Dp K H y e) (c1 : d.canLay0 = true) (c2 : e.canLay0 = true) (dd : min d.depth e.depth ≤ 199) (h : Q (.bl (!PyData.eqv d e)) H) : rNeG K x y H Q := .inr ⟨d, e, hx, hy, c1, c2, dd, h⟩
theorem u_inL (s : SqL K H a xs) (fx : flatV x = true) (fxs : xs.all flatV = true) (h : Q (.bl (inV x xs)) H) : rInU K x (.ref a) H Q := .inl ⟨a, xs, rfl, .inl s, fx, fxs, h⟩
theorem u_inT (s : SqT K H a xs) (fx : flatV x = true) (fxs : xs.all flatV = true) (h : Q (.bl (inV x xs)) H) : rInU K x (.ref a) H Q := .inl ⟨a, xs, rfl, .inr s, fx, fxs, h⟩
end
/-! ## data -/
def okS (z : Str) : Prop := z.length ≤ 1000 ∧ PyData.canLay0 (.str z) = true
mutual
def dat : PyData → Prop
  | .none => True
  | .int _ => True
  | .str z => okS z
  | .tuple ds => ds.length ≤ 1000 ∧ dats ds
  | _ => False
def dats : List PyData → Prop
  | [] => True
  | d :: r => dat d ∧ dats r
end
mutual
theorem dat_lay : ∀ d : PyData, dat d → d.canLay0 = true
  | .none, _ => by simp only [PyData.canLay0]
  | .int _, _ => by simp only [PyData.canLay0]
  | .str z, h => by
    have h' : okS z := by simpa only [dat] using h
    exact h'.2
  | .tuple ds, h => by
    have h' : ds.length ≤ 1000 ∧ dats ds := by simpa only [dat] using h
    simp only [PyData.canLay0]
    exact dats_lay ds h'.2
  | .bool _, h => by simp only [dat] at h
  | .list _, h => by simp only [dat] at h
  | .dict _, h => by simp only [dat] at h
theorem dats_lay : ∀ ds : List PyData, dats ds → PyData.canLayAll0 ds = true
  | [], _ => by simp only [PyData.canLayAll0]
  | d :: r, h => by
    have h' : dat d ∧ dats r := by simpa only [dats] using h
    simp only [PyData.canLayAll0, dat_lay d h'.1, dats_lay r h'.2, Bool.and_self]
end
mutual
theorem eqv_same : ∀ d : PyData, dat d → PyData.eqv d d = true
  | .none, _ => by simp [PyData.eqv]
  | .int _, _ => by simp [PyData.eqv]
  | .str z, _ => by simp [PyData.eqv]
  | .tuple ds, h => by
    have h' : ds.length ≤ 1000 ∧ dats ds := by simpa only [dat] using h
    simp only [PyData.eqv]
    exact eqvs_same ds h'.2
  | .bool _, h => by simp only [dat] at h
  | .list _, h => by simp only [dat] at h
  | .dict _, h => by simp only [dat] at h
theorem eqvs_same : ∀ ds : List PyData, dats ds → PyData.eqvAll ds ds = true
  | [], _ => by simp [PyData.eqvAll]
  | d :: r, h => by
    have h' : dat d ∧ dats r := by simpa only [dats] using h
    simp only [PyData.eqvAll, eqv_same d h'.1, eqvs_same r h'.2, Bool.and_self]
end
end Mine

/-! ### Kit9 -/
/-! ## enumerate of a tuple -/
namespace HE
open PySem PySem.Spec PyProof.Rows L2
/-- one argument, whatever begins -/
theorem meets1 {v : Value} {ob : Obj} {Hb : Heap → Prop} (bg : Begins v ob Hb) : Meets (Builtin.«enumerate.__new__» ⟨[.type "enumerate", v], []⟩) (fun _ Z st => Hb st.heap ∧
    Z (.ok (.ret (.ref (st.heap.push ob).objs.size))) { st with heap := (st.heap.push ob).push { cls := .type "enumerate", data := .fields #[.none, .bool false, .ref st.heap.objs.size, rawInt 0, .none, .none] } }) := by
  refine .of_wp fun pr w2 A2 Z st hst => ?_
  obtain ⟨h0, gg, dd, tt, oo⟩ := st
  obtain ⟨hb, hst⟩ := hst
  have hs1 := sub_enumerate
  have it1 : ∀ {B : Around} {E2 : Value → Shared → Prop} {Q2 : Value → Shared → Prop}, Q2 (.ref h0.objs.size) ⟨h0.push ob, gg, dd, tt, oo⟩ → wpAny (model pr w2) B (pyIter v) Q2 E2 ⟨h0, gg, dd, tt, oo⟩ :=
    fun q2 => bg.iter pr w2 _ _ ⟨h0, gg, dd, tt, oo⟩ _ hb q2
  wp_walk using it1
  refine wpAny_stack_any fun sta => wpAny_pure ?_
  split
  · rename_i cc _ _ _ _ _
    cases (cc == Value.type "enumerate") <;> (wp_walk using it1; exact ⟨_, rfl, hst⟩)
  · wp_walk using it1; exact ⟨_, rfl, hst⟩
section
variable {prog : Program} {w : World} {A : Around} {E : Value → Shared → Prop} {s : Shared}
theorem call1 {a : Addr} {its : Array Value} {Q : Value → Shared → Prop} (ht : s.heap.IsTuple a its)
    (k : ∀ h2, IsEnum h2 (s.heap.objs.size + 1) s.heap.objs.size 0 .none → h2.IsTupleIter s.heap.objs.size a 0 → (∀ c u, s.heap.get? c = some u → h2.get? c = some u) → Q (.ref (s.heap.objs.size + 1)) { s with heap := h2 }) :
    wpAny (model prog w) A (call (.type "enumerate") [.ref a]) Q E s := by
  have bg := begins_tuple a its
  refine callType_new F.called_enumerate (by decide) (F.typeCall_enumerate_1 _) (F.newCall_enumerate_1 _) (fun ob => F.args_object_init_2 ob _) F.entry_enumerate_new (meets1 bg) ⟨ht, ?_⟩
  have sz : (s.heap.push ({ cls := .type "tuple_iterator", data := .fields #[.ref a, .int 0 0] } : Obj)).objs.size = s.heap.objs.size + 1 := Heap.size_push ..
  show _ ∧ _
  rw [sz]
  have en := Heap.get?_push_size (s.heap.push ({ cls := .type "tuple_iterator", data := .fields #[.ref a, .int 0 0] } : Obj)) (o := { cls := .type "enumerate", data := .fields #[.none, .bool false, .ref s.heap.objs.size, rawInt 0, .none, .none] }) rfl
  rw [sz] at en
  exact ⟨⟨_, en, rfl⟩, k _ en ⟨_, Heap.get?_push_of_some _ (Heap.get?_push_size _ rfl), rfl, rfl⟩ fun c u x => Heap.get?_push_of_some _ (Heap.get?_push_of_some _ x)⟩
end
/-- the tuple at a, each item in a new pair -/
def IteT (K : PySem.W.Frag) (a : Addr) : It where
  go := fun i H => ∃ (xs : List V) (x : V), SqT K H a xs ∧ xs[i]? = some x
  yld := fun i H v H' => ∃ t x, v = .ref t ∧ H t = none ∧ H' = upd H t (.tup [.int (i : Nat), x]) ∧ ∀ xs, SqT K H a xs → xs[i]? = some x
  stop := fun i H => ∃ xs : List V, SqT K H a xs ∧ xs.length ≤ i
theorem apartT {h : Heap} {a it : Addr} {i : Nat} {its : Array Value} (ht : h.IsTuple a its) (hi : h.IsTupleIter it a i) : a ≠ it := fun z => by
  obtain ⟨o, e, _, n, d⟩ := ht
  obtain ⟨o2, e2, _, d2⟩ := hi
  rw [z, e2] at e
  cases e
  rw [d2] at d
  cases d
theorem apartE {h : Heap} {a e it : Addr} {i : Int} {old : Value} {its : Array Value} (ht : h.IsTuple a its) (he : IsEnum h e it i old) : e ≠ a := fun z => by
  obtain ⟨o, q, _, n, d⟩ := ht
  rw [← z] at q
  have q2 : h.get? e = some _ := he
  rw [q2] at q
  cases q
  cases d
theorem turn_enT {P : Program} {w : World} {K : PySem.W.Frag} {elts : List Expr} {kk : Nat} {tpos : Pos} (a e it : Addr) :
    Turn P w K (.Tuple elts kk tpos) (IteT K a) [e, it] e (fun i h => (∃ old, IsEnum h e it ((i : Nat) : Int) old) ∧ h.IsTupleIter it a i ∧ e ≠ it) := by
  refine ⟨by simp, fun i h st b hb => ?_, fun i h h' st k => ?_, ?_, ?_, fun A i s Q E st h => ?_⟩
  · obtain ⟨⟨old, he⟩, ⟨o, ho, hc, hd⟩, _⟩ := st
    rcases (by simpa using hb : b = e ∨ b = it) with rfl | rfl
    · exact ⟨_, he, fun v q => nomatch q⟩
    · exact ⟨o, ho, fun v q => by rw [hd] at q; cases q⟩
  · obtain ⟨⟨old, he⟩, hi, hne⟩ := st
    exact ⟨⟨old, k e (by simp) _ he⟩, hi.at fun o q => k it (by simp) o q, hne⟩
  · intro X hP hw hK hc i pins s σ H E I hf st hg
    subst hP hw hK
    obtain ⟨⟨old, he⟩, hit, hne⟩ := st
    obtain ⟨xs, x, hq, hx⟩ := hg
    obtain ⟨its, rv, p, hz⟩ := I.tuple hq
    have p2 : s.heap.IsTuple a its.toArray := p
    obtain ⟨u, hu, ru⟩ := rv.get hx
    have hu2 : its.toArray[i]? = some u := by simpa using hu
    have hel : e < s.heap.objs.size := Heap.lt_size he
    have hil : it < s.heap.objs.size := by obtain ⟨_, q, _⟩ := hit; exact Heap.lt_size q
    have dr := Draws.tuple (prog := X.prog) (w := X.w) (A := X.A.in1) (I.ok.hd hc) it a (apartT p2 hit) its.toArray
    refine wpAny_pyNext_enum_itemD dr he ⟨hit, p2⟩ (by rcases Nat.lt_or_ge i its.toArray.size with g | g; exact g; rw [Array.getElem?_eq_none g] at hu2; cases hu2) hne (fun m => by rcases (by simpa using m : e = it ∨ e = a) with z | z; exact hne z; exact apartE p2 he z) fun u' h2 tk hu' out st2 hT hsz hk => ?_
    have eu : u' = u := Option.some.inj (hu'.symm.trans hu2)
    subst eu
    refine ⟨_, rfl, wpAny_letOwnedTupleGo_enum (s := { s with heap := h2, toks := tk + 1 }) out fun h3 he3 sb => ?_⟩
    have hT3 := (sb.2 _ (Nat.ne_of_gt hel)).trans hT
    have new : ObjOk X.prog X.w (upd H s.heap.objs.size (.tup [.int (i : Nat), x])) h3 s.heap.objs.size (.tup [.int (i : Nat), x]) :=
      ⟨(by decide : 2 ≤ sizeLine), [.int i tk, u'], .cons ⟨_, rfl⟩ (.cons ru .nil), ⟨_, hT3, rfl, _, rfl⟩⟩
    have I2 : Inv X pins σ (upd H s.heap.objs.size (.tup [.int (i : Nat), x])) { s with heap := h3, toks := tk + 1 } :=
      I.turnedNew (ch := [e, it]) (fun b ob hb q => (sb.2 b (fun z => hb (by simp [z]))).trans (hk b ob (fun z => hb (by simp [z])) (fun z => hb (by simp [z])) q)) hf (Nat.le_refl _) new
    refine ⟨.ref s.heap.objs.size, _, I2, rfl, ⟨_, x, rfl, I.hok.fresh (Nat.le_refl _), rfl, fun ys hy => by rw [I.tuple_inj hy hq]; exact hx⟩, ⟨⟨u', ?_⟩, st2.1.at fun o q => (sb.2 it (Ne.symm hne)).trans q, hne⟩, fun b hb => ?_⟩
    · rw [show ((i + 1 : Nat) : Int) = (i : Int) + 1 from by omega]; exact he3
    · have lt : b < s.heap.objs.size := by rcases (by simpa using hb : b = e ∨ b = it) with rfl | rfl <;> assumption
      rw [upd_ne (Nat.ne_of_lt lt)]
      exact (hf b hb).1
  · intro X hP hw hK hc i pins s σ H E I hf st hg
    subst hP hw hK
    obtain ⟨⟨old, he⟩, hit, hne⟩ := st
    obtain ⟨xs, hq, hx⟩ := hg
    obtain ⟨its, rv, p, hz⟩ := I.tuple hq
    have p2 : s.heap.IsTuple a its.toArray := p
    obtain ⟨f0, f1, f2, f3, f4, f5⟩ := hf it (by simp)
    have hl := rv.length
    unfold pyNext
    refine wpAny_bind (wpAny_attempt (wpAny_callSpecial?_slot (name := Str.ofString "__next__") (⟨_, he, rfl⟩ : s.TypeIs (.ref e) "enumerate") F.slot_enumerate_next
      (wpAny_call_entry F.slot_enumerate_next ⟨_, he, rfl⟩ F.entry_enumerate_next ?_ (F.args_enumerate_next_1 _))))
    show wpAny _ _ (field (.ref e) 2 >>= _) _ _ _
    refine wpAny_bind (wpAny_field he rfl (x := .ref it) rfl ?_)
    refine wpAny_bind (wpAny_nextOf_tuple_end (I.ok.hd hc) hit p2 (by simp; omega) fun h2 y eb hy => ?_)
    obtain ⟨o, ho, hc2⟩ := hy
    refine wpAny_bind (wpAny_isInstance (T := "StopIteration") (b := true) ⟨o, ho, hc2⟩ isSubtype_stop (wpAny_pure ?_))
    exact ⟨rfl, I.turned (t' := s.toks) (fun b o hb q => eb b o hb q) f0 f1 f3 f4 f5⟩
  · obtain ⟨⟨_, he⟩, _⟩ := st
    exact wpAny_pyIter_enum he h
/-- what enumerate walks: a list or a tuple -/
def iEnA (K : PySem.W.Frag) (ta : TA) : TI := fun σ H R => ta σ H fun vs H1 => ∃ a xs, vs = [.ref a] ∧ ((SqL K H1 a xs ∧ R (Ite K a) H1) ∨ (SqT K H1 a xs ∧ R (IteT K a) H1))
theorem pi_enA {X : Cx} {e : Expr} {ta : TA} {p pos tpos : Pos} {elts : List Expr} {kk : Nat} (hg : Gl X "enumerate") (hm : X.mg "enumerate" = none) (ha : PA X [e] ta) (hs : starEach [e] X.env = [(false, eval e X.env)] := by rfl) :
    PI X (.Tuple elts kk tpos) (.Call (.Name "enumerate" p) [e] [] pos) (iEnA X.K ta) := by
  refine ⟨fun pins s σ H R I h => ?_⟩
  refine Call_ (ld_blt I hg hm boot_enumerate (PyProof.Rows.callWith_type1 (thn (ha.run pos pins s σ H _ I h) fun us s1 ⟨vs, H1, I1, r1, q1⟩ => ?_) hs rfl))
  obtain ⟨a, xs, ex, q1⟩ := q1
  subst ex
  obtain _ | ⟨ru, rn⟩ := r1
  cases rn
  cases ru
  have fp : ∀ b ∈ [s1.heap.objs.size + 1, s1.heap.objs.size], FpOk X pins H1 b := fun b hb => by
    have le : s1.heap.objs.size ≤ b := by rcases (by simpa using hb : b = s1.heap.objs.size + 1 ∨ b = s1.heap.objs.size) with rfl | rfl <;> omega
    exact I1.fpOk le (I1.hok.fresh le)
  rcases q1 with ⟨hq, q⟩ | ⟨hq, q⟩
  · obtain ⟨its, rv, pl, hz⟩ := I1.list hq
    refine call_enumerate_list pl.isList fun h' he hit hsz hk => wpAny_pyIter_enum he ?_
    exact ⟨s1.heap.objs.size + 1, [s1.heap.objs.size + 1, s1.heap.objs.size], _, _, H1, rfl, I1.kept (t' := s1.toks) hk, turn_enum a _ _, ⟨⟨.none, he⟩, hit, Nat.succ_ne_self _⟩, fp, q⟩
  · obtain ⟨its, rv, pt, hz⟩ := I1.tuple hq
    refine call1 (show s1.heap.IsTuple a its.toArray from pt) fun h' he hit hk => wpAny_pyIter_enum he ?_
    exact ⟨s1.heap.objs.size + 1, [s1.heap.objs.size + 1, s1.heap.objs.size], _, _, H1, rfl, I1.kept (t' := s1.toks) hk, turn_enT a _ _, ⟨⟨.none, he⟩, hit, Nat.succ_ne_self _⟩, fp, q⟩
/-- a loop over enumerate of a tuple -/
theorem forET {K : PySem.W.Frag} {a : Addr} {xs : List V} {g : TG} {tb : TS} {n : L2.St → Hp → Prop} {rt : VK} {σ : L2.St} {H : Hp} (Pv : Nat → L2.St → Hp → Prop) (h0 : Pv 0 σ H) (hq : ∀ i σ H, i ≤ xs.length → Pv i σ H → SqT K H a xs)
    (hs : ∀ (i : Nat) (x : V) (t : Addr) (σ : L2.St) (H : Hp), xs[i]? = some x → Pv i σ H → H t = none → g (.ref t) σ (upd H t (.tup [.int (i : Nat), x])) fun σ2 H2 => tb ⟨Pv (i + 1), rt, n, Pv (i + 1)⟩ σ2 H2) (hd : ∀ σ H, Pv xs.length σ H → n σ H) :
    ∃ W : Nat → Nat → L2.St → Hp → Prop, (∃ m, W 0 m σ H) ∧ ∀ i m σ H, W i m σ H →
      ((IteT K a).stop i H ∧ n σ H) ∨ ((IteT K a).go i H ∧ ∃ N : L2.St → Hp → Prop, (∀ σ' H', N σ' H' → ∃ m', m' < m ∧ W (i + 1) m' σ' H') ∧ ∀ v H', (IteT K a).yld i H v H' → g v σ H' fun σ2 H2 => tb ⟨N, rt, n, N⟩ σ2 H2) := by
  refine ⟨fun i m σ H => m = xs.length - i ∧ i ≤ xs.length ∧ Pv i σ H, ⟨xs.length, by simp, Nat.zero_le _, h0⟩, ?_⟩
  rintro i m σ H ⟨rfl, hi, pv⟩
  have sq := hq i σ H hi pv
  rcases Nat.lt_or_ge i xs.length with hl | hl
  · refine .inr ⟨⟨xs, _, sq, List.getElem?_eq_getElem hl⟩, Pv (i + 1), fun σ' H' p' => ⟨xs.length - (i + 1), by omega, rfl, hl, p'⟩, ?_⟩
    rintro v H' ⟨t, x, rfl, ht, rfl, hx⟩
    exact hs i x t σ H (hx xs sq) pv ht
  · have : i = xs.length := by omega
    subst this
    exact .inl ⟨⟨xs, sq, Nat.le_refl _⟩, hd σ H pv⟩
end HE

/-! ### KitA -/
namespace Mine
open PySem PySem.Spec L2
section
variable {K : PySem.W.Frag} {H : Hp} {Q : VK} {a b : Addr} {xs ys : List V} {lo hi : Option Int}
/-! ## slices and sums of tuples, whatever object stands for them -/
theorem cut_whole (z : HT.sIx xs.length 0 lo = 0 ∧ HT.sIx xs.length xs.length hi = xs.length) : cutV xs lo hi = xs := by
  unfold cutV
  rw [z.1, z.2]
  simp
theorem u_slS (ha : SqT K H a xs) (h : ∀ q H', Same H H' → SqT K H' q (cutV xs lo hi) → Q (.ref q) H') : rSlU K (.ref a) lo hi H Q :=
  .inr ⟨a, xs, rfl, ha, fun z => h a H (Same.refl H) (by rw [cut_whole z]; exact ha), fun _ p hp => h p _ (same_new hp _) (SqT.of upd_same)⟩
theorem u_slL (ha : SqL K H a xs) (h : ∀ p, H p = none → Q (.ref p) (upd H p (.lst (cutV xs lo hi)))) : rSlU K (.ref a) lo hi H Q := .inl ⟨a, xs, rfl, ha, h⟩
theorem u_catS (ha : SqT K H a xs) (hb : SqT K H b ys) (l : xs.length + ys.length ≤ sizeLine) (h : ∀ q H', Same H H' → SqT K H' q (xs ++ ys) → Q (.ref q) H') : rAddU K (.ref a) (.ref b) H Q :=
  .inr (.inr (.inr ⟨a, b, xs, ys, rfl, rfl, ha, hb, l, fun z => h b H (Same.refl H) (by rw [z]; exact hb), fun _ z => h a H (Same.refl H) (by rw [z, List.append_nil]; exact ha), fun _ _ p hp => h p _ (same_new hp _) (SqT.of upd_same)⟩))
theorem cut_from (xs : List V) (i : Nat) : cutV xs (some (i : Int)) none = xs.drop i := by
  unfold cutV
  rw [HT.sIx_nat, HT.sIx_none]
  rcases Nat.le_total i xs.length with h | h
  · rw [Nat.min_eq_left h]
    exact List.take_of_length_le (by rw [List.length_drop]; omega)
  · rw [Nat.min_eq_right h, List.drop_of_length_le (Nat.le_refl _), List.drop_of_length_le h]
    simp
theorem cut_to (xs : List V) (j : Nat) : cutV xs none (some (j : Int)) = xs.take j := by
  unfold cutV
  rw [HT.sIx_nat, HT.sIx_none, List.drop_zero, Nat.sub_zero]
  rcases Nat.le_total j xs.length with h | h
  · rw [Nat.min_eq_left h]
  · rw [Nat.min_eq_right h, List.take_of_length_le (Nat.le_refl _), List.take_of_length_le h]
theorem cut_mid (xs : List V) (i j : Nat) (h : i ≤ xs.length) (k : j ≤ xs.length) : cutV xs (some (i : Int)) (some (j : Int)) = (xs.drop i).take (j - i) := by
  unfold cutV
  rw [HT.sIx_nat, HT.sIx_nat, Nat.min_eq_left h, Nat.min_eq_left k]
end
/-! ## enumerate of a list or a tuple -/
section
variable {X : Cx} (K : PySem.W.Frag) {e : Expr} {ta : TA}
theorem pi_enAK {p pos tpos : Pos} {elts : List Expr} {kk : Nat} (hg : Gl X "enumerate") (hm : X.mg "enumerate" = none) (ha : PA X [e] ta) (h : X.K = K := by rfl) (hs : starEach [e] X.env = [(false, eval e X.env)] := by rfl) :
    PI X (.Tuple elts kk tpos) (.Call (.Name "enumerate" p) [e] [] pos) (HE.iEnA K ta) := by subst h; exact HE.pi_enA hg hm ha hs
end
section
variable {K : PySem.W.Frag} {σ : St} {H : Hp} {ta : TA} {a b : Addr} {xs ys : List V}
theorem rd_enA {R : It → Hp → Prop} (h : ta σ H fun vs H1 => ∃ a xs, vs = [.ref a] ∧ ((SqL K H1 a xs ∧ R (Ite K a) H1) ∨ (SqT K H1 a xs ∧ R (HE.IteT K a) H1))) : HE.iEnA K ta σ H R := h
theorem u_enT {R1 R2 : Addr → Prop} (s : SqT K H a xs) (h : R2 a) : ∃ a' xs', [V.ref a] = [V.ref a'] ∧ ((SqL K H a' xs' ∧ R1 a') ∨ (SqT K H a' xs' ∧ R2 a')) := ⟨a, xs, rfl, .inr ⟨s, h⟩⟩
theorem u_enL {R1 R2 : Addr → Prop} (s : SqL K H a xs) (h : R1 a) : ∃ a' xs', [V.ref a] = [V.ref a'] ∧ ((SqL K H a' xs' ∧ R1 a') ∨ (SqT K H a' xs' ∧ R2 a')) := ⟨a, xs, rfl, .inl ⟨s, h⟩⟩
theorem rd_zip {R : It → Hp → Prop} (h : ta σ H fun vs H1 => ∃ a b xs ys, vs = [.ref a, .ref b] ∧ ((SqL K H1 a xs ∧ SqL K H1 b ys ∧ R (Itz K a b) H1) ∨ (SqT K H1 a xs ∧ SqT K H1 b ys ∧ R (RZ.ItzT K a b) H1))) : RZ.iZipA K ta σ H R := h
theorem u_zipL {R1 R2 : Addr → Addr → Prop} (s : SqL K H a xs) (t : SqL K H b ys) (h : R1 a b) : ∃ a' b' xs' ys', [V.ref a, V.ref b] = [V.ref a', V.ref b'] ∧ ((SqL K H a' xs' ∧ SqL K H b' ys' ∧ R1 a' b') ∨ (SqT K H a' xs' ∧ SqT K H b' ys' ∧ R2 a' b')) := ⟨a, b, xs, ys, rfl, .inl ⟨s, t, h⟩⟩
/-- a loop over zip of two lists of one length -/
theorem forZ {g : TG} {tb : TS} {n : St → Hp → Prop} {rt : VK} (hl : xs.length = ys.length) (Pv : Nat → St → Hp → Prop) (h0 : Pv 0 σ H) (hq : ∀ i σ H, Pv i σ H → SqL K H a xs ∧ SqL K H b ys)
    (hs : ∀ (i : Nat) (x y : V) (T : Addr) (σ : St) (H : Hp), xs[i]? = some x → ys[i]? = some y → Pv i σ H → H T = none → g (.ref T) σ (upd H T (.tup [x, y])) fun σ2 H2 => tb ⟨Pv (i + 1), rt, n, Pv (i + 1)⟩ σ2 H2) (hd : ∀ σ H, Pv xs.length σ H → n σ H) :
    ∃ W : Nat → Nat → St → Hp → Prop, (∃ m, W 0 m σ H) ∧ ∀ i m σ H, W i m σ H →
      ((Itz K a b).stop i H ∧ n σ H) ∨ ((Itz K a b).go i H ∧ ∃ N : St → Hp → Prop, (∀ σ' H', N σ' H' → ∃ m', m' < m ∧ W (i + 1) m' σ' H') ∧ ∀ v H', (Itz K a b).yld i H v H' → g v σ H' fun σ2 H2 => tb ⟨N, rt, n, N⟩ σ2 H2) :=
  RZ.for_zipL (D := ⟨n, rt, fun _ _ => False, fun _ _ => False⟩) hl Pv h0 hq hs hd
/-- a loop over zip of two lists, as long as the shorter -/
theorem forZm {g : TG} {tb : TS} {n : St → Hp → Prop} {rt : VK} {m : Nat} (hm : m = min xs.length ys.length) (Pv : Nat → St → Hp → Prop) (h0 : Pv 0 σ H) (hq : ∀ i σ H, i ≤ m → Pv i σ H → SqL K H a xs ∧ SqL K H b ys)
    (hs : ∀ (i : Nat) (x y : V) (t : Addr) (σ : St) (H : Hp), i < m → xs[i]? = some x → ys[i]? = some y → Pv i σ H → H t = none → g (.ref t) σ (upd H t (.tup [x, y])) fun σ2 H2 => tb ⟨Pv (i + 1), rt, n, Pv (i + 1)⟩ σ2 H2) (hd : ∀ σ H, Pv m σ H → n σ H) :
    ∃ W : Nat → Nat → St → Hp → Prop, (∃ m, W 0 m σ H) ∧ ∀ i m σ H, W i m σ H →
      ((Itz K a b).stop i H ∧ n σ H) ∨ ((Itz K a b).go i H ∧ ∃ N : St → Hp → Prop, (∀ σ' H', N σ' H' → ∃ m', m' < m ∧ W (i + 1) m' σ' H') ∧ ∀ v H', (Itz K a b).yld i H v H' → g v σ H' fun σ2 H2 => tb ⟨N, rt, n, N⟩ σ2 H2) := by
  refine ⟨fun i k σ H => k = m - i ∧ i ≤ m ∧ Pv i σ H, ⟨m, by simp, Nat.zero_le _, h0⟩, ?_⟩
  rintro i k σ H ⟨rfl, hi, pv⟩
  obtain ⟨q1, q2⟩ := hq i σ H hi pv
  rcases Nat.lt_or_ge i m with hl | hl
  · have l1 : i < xs.length := by omega
    have l2 : i < ys.length := by omega
    refine .inr ⟨⟨xs, ys, _, _, q1, q2, List.getElem?_eq_getElem l1, List.getElem?_eq_getElem l2⟩, Pv (i + 1), fun σ' H' p' => ⟨m - (i + 1), by omega, rfl, hl, p'⟩, ?_⟩
    rintro v H' ⟨t, x, y, rfl, ht, rfl, hx, hy⟩
    exact hs i x y t σ H hl (hx xs q1) (hy ys q2) pv ht
  · obtain rfl : i = m := by omega
    exact .inl ⟨⟨xs, ys, q1, q2, by omega⟩, hd σ H pv⟩
/-! ## a comprehension with two for -/
theorem rd_lc2 {wi : TI} {g : TG} {tt : TT} {wi1 : TI} {g1 : TG} {tt1 : TT} {te : TE} {vs vs1 : List Nat} {Q : VK} (h : wi σ H fun J H1 => ∀ D, H1 D = none → ∃ W : Nat → Nat → Hp → Prop, (∃ m, W 0 m (upd H1 D (.lst []))) ∧ ∀ i m H, W i m H →
  (J.stop i H ∧ Q (.ref D) H) ∨ (J.go i H ∧ ∃ Nx : Hp → Prop, (∀ H', Nx H' → ∃ m', m' < m ∧ W (i + 1) m' H') ∧ ∀ x H', J.yld i H x H' → g x (wipe σ vs) H' fun σ2 H2 => wipe σ2 vs = wipe σ vs ∧ tt σ2 H2 fun b H3 =>
    if b = true then wi1 σ2 H3 fun J1 H4 => ∃ W1 : Nat → Nat → Hp → Prop, (∃ m, W1 0 m H4) ∧ ∀ j k H, W1 j k H →
      (J1.stop j H ∧ Nx H) ∨ (J1.go j H ∧ ∃ Nx1 : Hp → Prop, (∀ H', Nx1 H' → ∃ k', k' < k ∧ W1 (j + 1) k' H') ∧ ∀ x H', J1.yld j H x H' → g1 x (wipe σ2 vs1) H' fun σ3 H5 => wipe σ3 vs1 = wipe σ2 vs1 ∧ tt1 σ3 H5 fun b H6 =>
        if b = true then te σ3 H6 fun y H7 => ∃ acc, H7 D = some (.lst acc) ∧ acc.length < sizeLine ∧ Nx1 (upd H7 D (.lst (acc ++ [y]))) else Nx1 H6)
    else Nx H3)) : tLc2 wi g tt wi1 g1 tt1 te vs vs1 σ H Q := h
/-- its outer and its inner walk, both over tuples: BB is what follows the tests -/
theorem lcG {g : TG} {tt : TT} {vs : List Nat} {Qd : Hp → Prop} {BB : (Hp → Prop) → St → Hp → Prop} (Pv : Nat → Hp → Prop) (h0 : Pv 0 H) (hl : ∀ i H, i ≤ xs.length → Pv i H → SqT K H a xs)
    (hs : ∀ i x H, xs[i]? = some x → Pv i H → g x (wipe σ vs) H fun σ2 H2 => wipe σ2 vs = wipe σ vs ∧ tt σ2 H2 fun b H3 => if b = true then BB (Pv (i + 1)) σ2 H3 else Pv (i + 1) H3) (hd : ∀ H, Pv xs.length H → Qd H) :
    ∃ W : Nat → Nat → Hp → Prop, (∃ m, W 0 m H) ∧ ∀ i m H, W i m H →
      ((Itt K a).stop i H ∧ Qd H) ∨ ((Itt K a).go i H ∧ ∃ Nx : Hp → Prop, (∀ H', Nx H' → ∃ m', m' < m ∧ W (i + 1) m' H') ∧ ∀ x H', (Itt K a).yld i H x H' → g x (wipe σ vs) H' fun σ2 H2 => wipe σ2 vs = wipe σ vs ∧ tt σ2 H2 fun b H3 =>
        if b = true then BB Nx σ2 H3 else Nx H3) := by
  refine ⟨fun i m H => m = xs.length - i ∧ i ≤ xs.length ∧ Pv i H, ⟨xs.length, by simp, Nat.zero_le _, h0⟩, ?_⟩
  rintro i m H ⟨rfl, hi, pv⟩
  have sq := hl i H hi pv
  rcases Nat.lt_or_ge i xs.length with hlt | hlt
  · refine .inr ⟨⟨xs, _, sq, List.getElem?_eq_getElem hlt⟩, Pv (i + 1), fun H' p' => ⟨xs.length - (i + 1), by omega, rfl, hlt, p'⟩, fun x H' y => ?_⟩
    obtain ⟨e1, e2⟩ := y
    subst e1
    exact hs i x _ (e2 xs sq) pv
  · obtain rfl : i = xs.length := by omega
    exact .inl ⟨⟨xs, sq, Nat.le_refl _⟩, hd H pv⟩
end
end Mine

/-! ### KitB -/
namespace Mine
open PySem PySem.Spec L2
section
variable {K : PySem.W.Frag} {σ : St} {H : Hp} {Q : VK}
/-- a loop over a range with a step -/
theorem forC {lo c : Int} {m : Nat} {g : TG} {tb : TS} {n : St → Hp → Prop} {rt : VK} (Pv : Nat → St → Hp → Prop) (h0 : Pv 0 σ H)
    (hs : ∀ i σ H, i < m → Pv i σ H → g (.int (lo + (i : Nat) * c)) σ H fun σ2 H2 => tb ⟨Pv (i + 1), rt, n, Pv (i + 1)⟩ σ2 H2) (hd : ∀ σ H, Pv m σ H → n σ H) :
    ∃ W : Nat → Nat → St → Hp → Prop, (∃ m, W 0 m σ H) ∧ ∀ i k σ H, W i k σ H →
      ((Itc lo c m).stop i H ∧ n σ H) ∨ ((Itc lo c m).go i H ∧ ∃ N : St → Hp → Prop, (∀ σ' H', N σ' H' → ∃ m', m' < k ∧ W (i + 1) m' σ' H') ∧ ∀ x H', (Itc lo c m).yld i H x H' → g x σ H' fun σ2 H2 => tb ⟨N, rt, n, N⟩ σ2 H2) :=
  for_rangeC (D := ⟨n, rt, fun _ _ => False, fun _ _ => False⟩) Pv h0 hs hd
theorem rd_revR {tr : St → Hp → (Int → Int → Hp → Prop) → Prop} {R : It → Hp → Prop} (h : tr σ H fun a b H1 => -(2 ^ 62) ≤ a ∧ a < 2 ^ 62 ∧ -(2 ^ 62) ≤ b ∧ b < 2 ^ 62 ∧ R (Itc (a + (((b - a).toNat : Nat) : Int) - 1) (-1) (b - a).toNat) H1) : iRevR tr σ H R := h
theorem rd_rg1 {ta : TE} {R : Int → Int → Hp → Prop} (h : ta σ H fun x H1 => ∃ n, x = .int n ∧ R 0 n H1) : tRg1 ta σ H R := h
theorem rd_rng3 {t : TA} {R : It → Hp → Prop} (h : t σ H fun vs H1 => ∃ (i j c : Int) (n : Nat), vs = [.int i, .int j, .int c] ∧ RgC i j c n ∧ R (Itc i c n) H1) : iRng3 t σ H R := h
theorem rep_one : ∀ (n : Nat) (v : V), (List.replicate n [v]).flatten = List.replicate n v
  | 0, _ => rfl
  | n + 1, v => by rw [List.replicate_succ, List.flatten_cons, rep_one n v] <;> rfl
theorem u_rep1 {l : Addr} {v : V} {n : Nat} (h : H l = some (.lst [v])) (hn : n ≤ 1000) (q : ∀ p, H p = none → Q (.ref p) (upd H p (.lst (List.replicate n v)))) : rMulU K (.ref l) (.int (n : Nat)) H Q := by
  refine .inr (.inl ⟨l, n, [v], rfl, rfl, h, by omega, by omega, ?_, fun p hp => ?_⟩)
  · show 1 * ((n : Int).toNat) ≤ sizeLine
    exact Nat.le_trans (show 1 * ((n : Int).toNat) ≤ 1000000 by omega) (by decide)
  · rw [Int.toNat_natCast, rep_one]
    exact q p hp
end
end Mine

/-! ### KitC -/
/-! ## a tuple once -/
namespace HE
open PySem PySem.Spec PyProof.Rows L2
theorem once (q : Addr) (vs : Array Value) (ep : Nat) (dc : Option Addr) (ss : Array (Option Value)) (tk : Tok) (ne : vs.isEmpty = false) :
    Meets (Builtin.«tuple.__mul__» ⟨[.ref q, .int 1 tk], []⟩) (fun _ Z st => st.heap.get? q = some { cls := .type "tuple", dict := dc, data := .seq vs ep, slots := ss } ∧ Z (.ok (.ret (.ref q))) st) := by
  refine .of_wp fun pr w2 A2 Z st hst => ?_
  obtain ⟨h0, gg, dd, tt, oo⟩ := st
  obtain ⟨hq, hz⟩ := hst
  have ix := AutoSeq1.idx_int
  wp_walk using wpAny_loadPart' hq
  exact ⟨_, rfl, hz⟩
def rRep1 (K : PySem.W.Frag) : R2 := fun x y H Q => ∃ l xs, x = .ref l ∧ y = .int 1 ∧ SqT K H l xs ∧ xs ≠ [] ∧ Q (.ref l) H
theorem op_rep1 {X : Cx} : OpR X (binaryOp .Mult) (rRep1 X.K) := by
  intro pins s σ H x y v u Q I rx ry h
  obtain ⟨l, xs, rfl, rfl, hT, hne, q⟩ := h
  cases rx
  obtain ⟨t, rfl⟩ := ry
  obtain ⟨its, r, ⟨⟨cls, dd, data, sl⟩, ho, hc, n, hd⟩, hs⟩ := I.tuple hT
  simp only at hc hd
  subst hc hd
  have hi : its.toArray.isEmpty = false := by
    cases r with
    | nil => exact absurd rfl hne
    | cons a b => rfl
  exact wpAny_binaryOp_repeat_ref (T := "tuple") (U := "int") (by decide) ⟨_, ho, rfl⟩ (fun s' => typeIs_int s' 1 t) noFill_tuple_mul F.fills_int_mul F.slot_int_rmul repeat_tuple F.slot_int_index.lookup
    (call_meets F.slot_int_rmul (typeIs_int s 1 t) F.entry_int_rmul (F.args_int_rmul_2 _ _) (int_rmul_tuple 1 t l its.toArray n dd sl)
      ⟨ho, rfl, ⟨_, ho, rfl⟩, call_meets F.slot_tuple_mul ⟨_, ho, rfl⟩ F.entry_tuple_mul (F.args_tuple_mul_2 _ _) (once l its.toArray n dd sl t hi) ⟨ho, ⟨.ref l, H, I, rfl, q⟩⟩⟩)
end HE
namespace Mine
open PySem PySem.Spec L2
def rMulV (K : PySem.W.Frag) : R2 := fun x y H Q => rMulU K x y H Q ∨ HE.rRep1 K x y H Q
theorem kMulV {X : Cx} (K : PySem.W.Frag) (h : X.K = K := by rfl) : OpR X (binaryOp .Mult) (rMulV K) := by subst h; exact mulU.or HE.op_rep1
/-- a tuple of one some times -/
theorem u_rowOf {K : PySem.W.Frag} {H : Hp} {Q : VK} {l : Addr} {v : V} {k : Int} (h : SqT K H l [v]) (h1 : 1 ≤ k) (h2 : k ≤ 1000) (q : ∀ p H', Same H H' → SqT K H' p (List.replicate k.toNat v) → Q (.ref p) H') : rMulV K (.ref l) (.int k) H Q := by
  by_cases c : k = 1
  · subst c
    exact .inr ⟨l, [v], rfl, rfl, h, by simp, q l H (Same.refl H) h⟩
  · refine .inl (.inr (.inr ⟨l, k, [v], rfl, rfl, h, by simp, by omega, h2, by simp, fun p hp => q p _ (same_new hp _) ?_⟩))
    rw [rep_one]
    exact SqT.of upd_same
end Mine

/-! ### KitD -/
namespace HE
open PySem PySem.Spec PyProof.Rows L2
section
variable {X : Cx}
/-- xs[i] op= y: what is read of a list -/
theorem get_list : PGet X (rIxL X.K) := by
  intro pins s σ H x y v u Q I rx ry h
  obtain ⟨p, xs, i, z, rfl, rfl, hq, he, q⟩ := h
  cases rx
  obtain ⟨t, rfl⟩ := ry
  obtain ⟨its, r, pl, hz⟩ := I.list hq
  obtain ⟨j, h1, h2, h3, h4, h5⟩ := atI_get he
  obtain ⟨w, ew, rw'⟩ := r.get h2
  have hl := r.length
  have hn := line63
  have fin : EP X pins σ Q w s := ⟨z, H, I, rw', q⟩
  by_cases h0 : 0 ≤ i
  · have hj : i.toNat = j := by
      rw [seqIndex_of h0 h5] at h1
      exact Option.some.inj h1
    exact wpAny_getItem_list pl.isList h0 (by omega) (by rw [hj]; simpa using ew) fin
  · have hj : (i + (its.toArray.size : Int)).toNat = j := by
      rw [seqIndex_neg (by omega) h4] at h1
      rw [List.size_toArray, ← hl]
      exact Option.some.inj h1
    exact wpAny_getItem_list_neg pl.isList (by omega) (by rw [List.size_toArray] <;> omega) (by omega) (by rw [hj]; simpa using ew) fin
theorem kGetL {X : Cx} (K : PySem.W.Frag) (h : X.K = K := by rfl) : PGet X (rIxL K) := by subst h; exact get_list
theorem rd_augS {to ti te : TE} {tget : V → V → Hp → VK → Prop} {tip : TIp} {tset : TSet} {D : Ends} {σ : L2.St} {H : Hp} (h : to σ H fun o H1 => ti σ H1 fun i H2 => tget o i H2 fun x H3 => te σ H3 fun y H4 => tip x y H4 fun z H5 => tset o i z H5 fun H6 => D.nx σ H6) : tAugS to ti te tget tip tset D σ H := h
end
end HE

/-! ### KitE -/
namespace HE
open PySem PySem.Spec PyProof.Rows L2
/-- t.index(i) of a tuple of ints -/
def rTix (K : PySem.W.Frag) : V → List V → Hp → VK → Prop := fun x vs H Q => ∃ (a : Addr) (ns : List Int) (k : Int), x = .ref a ∧ vs = [.int k] ∧ SqT K H a (ns.map V.int) ∧ k ∈ ns ∧ Q (.int (ns.idxOf k : Nat)) H
theorem mt_tix {X : Cx} : MtR X "tuple.index" (rTix X.K) := by
  intro pins s σ H x vs v us Q I rx rv h
  obtain ⟨a, ns, k, rfl, rfl, hs, hk, q⟩ := h
  cases rx
  obtain ⟨u, rfl, ru⟩ := rv.one
  obtain ⟨t, rfl⟩ := ru
  obtain ⟨its, r, pt, hz⟩ := I.tuple hs
  have hT : s.heap.IsTuple a its.toArray := pt
  exact PySem.SeqAt.tuple_index_ints hT r.ints hk ⟨.int _, H, I.kept (t' := s.toks + 1) (fun _ _ e => e), ⟨_, rfl⟩, q⟩
end HE
namespace Mine
open PySem PySem.Spec L2
theorem kTix {X : Cx} (K : PySem.W.Frag) (h : X.K = K := by rfl) : MtR X "tuple.index" (HE.rTix K) := by subst h; exact HE.mt_tix
variable {K : PySem.W.Frag} {σ : St} {H : Hp} {Q : VK} {a : Addr} {xs : List V}
theorem u_tix {ns : List Int} {k : Int} (s : SqT K H a (ns.map V.int)) (hk : k ∈ ns) (h : Q (.int (ns.idxOf k : Nat)) H) : HE.rTix K (.ref a) [.int k] H Q := ⟨a, ns, k, rfl, rfl, s, hk, h⟩
theorem rd_dc {wi : TI} {g : TG} {tt : TT} {tk tv : TE} {vs : List Nat} (h : wi σ H fun J H1 => ∀ D, H1 D = none → ∃ W : Nat → Nat → Hp → Prop, (∃ m, W 0 m (upd H1 D (.dK []))) ∧ ∀ i m H, W i m H →
  (J.stop i H ∧ Q (.ref D) H) ∨ (J.go i H ∧ ∃ Nx : Hp → Prop, (∀ H', Nx H' → ∃ m', m' < m ∧ W (i + 1) m' H') ∧ ∀ x H', J.yld i H x H' → g x (wipe σ vs) H' fun σ2 H2 => wipe σ2 vs = wipe σ vs ∧ tt σ2 H2 fun b H3 =>
    if b = true then tk σ2 H3 fun y H4 => tv σ2 H4 fun z H5 => ∃ kvs k, y = kV k ∧ H5 D = some (.dK kvs) ∧ kvs.length < sizeLine ∧ Nx (upd H5 D (.dK (putK kvs k z))) else Nx H3)) : tDc wi g tt tk tv vs σ H Q := h
/-- a dict comprehension over enumerate of a tuple -/
theorem dcET {g : TG} {tt : TT} {tk tv : TE} {vs : List Nat} {H1 : Hp} {D : Addr} {Qd : Hp → Prop} (Pv : Nat → Hp → Prop) (h0 : Pv 0 (upd H1 D (.dK []))) (hl : ∀ i H, i ≤ xs.length → Pv i H → SqT K H a xs)
    (hs : ∀ (i : Nat) (x : V) (t : Addr) (H : Hp), xs[i]? = some x → Pv i H → H t = none → g (.ref t) (wipe σ vs) (upd H t (.tup [.int (i : Nat), x])) fun σ2 H2 => wipe σ2 vs = wipe σ vs ∧ tt σ2 H2 fun b H3 =>
      if b = true then tk σ2 H3 fun y H4 => tv σ2 H4 fun z H5 => ∃ kvs k, y = kV k ∧ H5 D = some (.dK kvs) ∧ kvs.length < sizeLine ∧ Pv (i + 1) (upd H5 D (.dK (putK kvs k z))) else Pv (i + 1) H3) (hd : ∀ H, Pv xs.length H → Qd H) :
    ∃ W : Nat → Nat → Hp → Prop, (∃ m, W 0 m (upd H1 D (.dK []))) ∧ ∀ i m H, W i m H →
      ((HE.IteT K a).stop i H ∧ Qd H) ∨ ((HE.IteT K a).go i H ∧ ∃ Nx : Hp → Prop, (∀ H', Nx H' → ∃ m', m' < m ∧ W (i + 1) m' H') ∧ ∀ x H', (HE.IteT K a).yld i H x H' → g x (wipe σ vs) H' fun σ2 H2 => wipe σ2 vs = wipe σ vs ∧ tt σ2 H2 fun b H3 =>
        if b = true then tk σ2 H3 fun y H4 => tv σ2 H4 fun z H5 => ∃ kvs k, y = kV k ∧ H5 D = some (.dK kvs) ∧ kvs.length < sizeLine ∧ Nx (upd H5 D (.dK (putK kvs k z))) else Nx H3) := by
  refine ⟨fun i m H => m = xs.length - i ∧ i ≤ xs.length ∧ Pv i H, ⟨xs.length, by simp, Nat.zero_le _, h0⟩, ?_⟩
  rintro i m H ⟨rfl, hi, p⟩
  have q := hl i H hi p
  by_cases hlt : i < xs.length
  · refine .inr ⟨⟨xs, xs[i], q, by simp [hlt]⟩, Pv (i + 1), fun H' p' => ⟨xs.length - (i + 1), by omega, rfl, hlt, p'⟩, ?_⟩
    rintro v H' ⟨t, x, rfl, ht, rfl, hx⟩
    exact hs i x t H (hx xs q) p ht
  · have e : i = xs.length := by omega
    subst e
    exact .inl ⟨⟨xs, q, Nat.le_refl _⟩, hd H p⟩
theorem u_maxL {ns : List Int} (s : SqL K H a (ns.map V.int)) (l : 0 < ns.length) (h : ∀ m, m ∈ ns → (∀ y, y ∈ ns → y ≤ m) → Q (.int m) H) : rMax K [.ref a] H Q := ⟨a, ns, rfl, s, l, h⟩
theorem u_minL {ns : List Int} (s : SqL K H a (ns.map V.int)) (l : 0 < ns.length) (h : ∀ m, m ∈ ns → (∀ y, y ∈ ns → m ≤ y) → Q (.int m) H) : rMin K [.ref a] H Q := ⟨a, ns, rfl, s, l, h⟩
end Mine
namespace HE
open PySem PySem.Spec PyProof.Rows L2
variable {X : Cx}
/-- is, is not: two bools -/
def rIsB : R2 := fun x y H Q => ∃ a b, x = .bl a ∧ y = .bl b ∧ Q (.bl (decide (a = b))) H
def rNotB : R2 := fun x y H Q => ∃ a b, x = .bl a ∧ y = .bl b ∧ Q (.bl (!decide (a = b))) H
theorem op_isB : OpR X (compareOp .Is) rIsB := by
  intro pins s σ H x y v u Q I rx ry h
  obtain ⟨a, b, rfl, rfl, q⟩ := h
  cases rx
  cases ry
  show wpAny _ _ ((isSame (Value.bool a) (Value.bool b)) >>= fun z => pure (Value.bool z)) _ _ s
  exact wpAny_bind (wpAny_isSame_plain rfl (wpAny_pure (fin_bl I q (by cases a <;> cases b <;> rfl))))
theorem op_notB : OpR X (compareOp .IsNot) rNotB := by
  intro pins s σ H x y v u Q I rx ry h
  obtain ⟨a, b, rfl, rfl, q⟩ := h
  cases rx
  cases ry
  show wpAny _ _ ((isSame (Value.bool a) (Value.bool b)) >>= fun z => pure (Value.bool (!z))) _ _ s
  exact wpAny_bind (wpAny_isSame_plain rfl (wpAny_pure (fin_bl I q (by cases a <;> cases b <;> rfl))))
end HE
namespace Mine
open PySem PySem.Spec L2
variable {H : Hp} {Q : VK}
theorem u_isB {a b : Bool} (h : Q (.bl (decide (a = b))) H) : HE.rIsB (.bl a) (.bl b) H Q := ⟨a, b, rfl, rfl, h⟩
theorem u_notB {a b : Bool} (h : Q (.bl (!decide (a = b))) H) : HE.rNotB (.bl a) (.bl b) H Q := ⟨a, b, rfl, rfl, h⟩
end Mine

/-! ## tuples whose object is known -/
namespace HE
open PySem PySem.Spec PyProof.Rows L2
/-- a tuple without a dict -/
def FT (H : Hp) (a : Addr) (xs : List V) : Prop := ∃ o, H a = some (.frz o (.tup xs)) ∧ o.dict = none
theorem FT.sq {K : PySem.W.Frag} {H : Hp} {a : Addr} {xs : List V} (h : FT H a xs) : SqT K H a xs := .inl (.inr ⟨h.choose, h.choose_spec.1⟩)
variable {X : Cx} {e o : Expr} {es : List Expr} {to : TE} {t : TA} {name : Str} {apos cpos pos : Pos} {id : String} {r : V → List V → Hp → VK → Prop}
def tBMt (r : V → List V → Hp → VK → Prop) (to : TE) (t : TA) : TE := fun σ H Q => to σ H fun x H1 => (∃ a xs, x = .ref a ∧ FT H1 a xs) ∧ t σ H1 fun xs H2 => r x xs H2 Q
theorem pe_bmT (pa : PlainAttrs "tuple") (slot : Slot "tuple" name id) (hty : typeOf (.builtin id) = pure (.type "method_descriptor")) (hm : MtR X id r) (ho : PE X o to) (ha : PA X (e :: es) t)
    (hbase : attributeBase o name X.env (eval o X.env) = eval o X.env := by rfl)
    (hfew : ((backTo cpos (starEach (e :: es) X.env)).all (fun x => !x.1) && (backToKw cpos (keywordEach [] X.env)).all (fun x => x.1.isSome)
      && decide ((e :: es).length + ([] : List Keyword).length + (if ([] : List Keyword).isEmpty then 0 else 1) < 30)) = true := by rfl)
    (hline : (apos.endLine == cpos.line) = true := by rfl) (hs : starEach (e :: es) X.env = (false, eval e X.env) :: starEach es X.env := by rfl) (hplain : (backTo cpos (starEach es X.env)).any (·.1) = false := by rfl) :
    PE X (.Call (.Attribute o name apos) (e :: es) [] cpos) (tBMt r to t) := by
  refine ⟨fun pins s σ H Q I h => ?_⟩
  refine wpAny_Call_method_late hbase hfew hline rfl (thn (ho.run pins s σ H _ I h) fun v s1 ⟨x, H1, I1, r1, ty, q1⟩ => ?_)
  obtain ⟨a, xs, rfl, ob, e1, e2⟩ := ty
  cases r1
  obtain ⟨e3, _, its, _, p1⟩ := (show ObjOk X.prog X.w H1 s1.heap a (.frz ob (.tup xs)) from I1.hok a _ e1)
  refine ⟨"tuple", id, pa, slot, hty, IsTup.typeIs p1, (fun a' e' => by cases e'; exact ⟨ob, e3, e2⟩), ?_⟩
  have hA := ha.run cpos pins s1 σ H1 _ I1 q1
  rw [hs] at hA ⊢
  refine Calls.callWith_builtin (by show (false || (backTo cpos (starEach es X.env)).any (·.1)) = false; rw [hplain] <;> rfl) (Calls.evalArgs_plain ?_)
  exact thn hA fun us s2 ⟨vs, H2, I2, r2, q2⟩ => hm pins s2 σ H2 (.ref a) vs _ us Q I2 rfl r2 q2
/-- a display -/
def tTupF (t : TA) : TE := fun σ H Q => t σ H fun xs H1 => xs.length ≤ sizeLine ∧ ∀ p o, H1 p = none → o.dict = none → Q (.ref p) (upd H1 p (.frz o (.tup xs)))
theorem pe_tupF {x1} (h : PA X es t) : PE X (.Tuple es x1 pos) (tTupF t) := by
  refine ⟨fun pins s σ H Q I hq => ?_⟩
  refine wpAny_Tuple_spliced (thn (h.run pos pins s σ H _ I hq) fun us s1 ⟨xs, H1, I1, r, z, q⟩ => ⟨by rw [← r.length]; exact z, ?_⟩)
  have hf : H1 s1.heap.objs.size = none := I1.hok.fresh (Nat.le_refl _)
  refine ⟨.ref s1.heap.objs.size, upd H1 s1.heap.objs.size (.frz { cls := .type "tuple", data := .seq us.toArray } (.tup xs)), I1.laid (t' := s1.toks) (fun b u e => Heap.get?_push_of_some _ e) (Nat.le_refl _) ?_, rfl, q _ _ hf rfl⟩
  exact ⟨Heap.get?_push_size _ rfl, z, us, r, ⟨_, Heap.get?_push_size _ rfl, rfl, _, rfl⟩⟩
/-- tuple(xs) of a list -/
def rTupF (K : PySem.W.Frag) : List V → Hp → VK → Prop := fun xs H Q => ∃ p ys, xs = [.ref p] ∧ SqL K H p ys ∧ ∀ l o, H l = none → o.dict = none → Q (.ref l) (upd H l (.frz o (.tup ys)))
theorem call_tupF : CallR X (.type "tuple") (rTupF X.K) := by
  intro pins s σ H xs us Q I r h
  obtain ⟨p, ys, rfl, hq, q⟩ := h
  obtain ⟨u, rfl, rx⟩ := vals1 r
  cases rx
  obtain ⟨its, r', pl, hz⟩ := I.list hq
  have hlen := r'.length
  refine call_tuple_list pl.isList (fun h' kp => ?_) (by simp only [List.size_toArray] <;> omega)
  have I1 : Inv X pins σ H { s with heap := h' } := I.kept (t' := s.toks) kp
  have I2 : Inv X pins σ (upd H h'.objs.size (.frz { cls := .type "tuple", data := .seq its.toArray } (.tup ys))) { s with heap := h'.push { cls := .type "tuple", data := .seq its.toArray } } :=
    I1.laid (t' := s.toks) (fun b o e => Heap.get?_push_of_some _ e) (Nat.le_refl _) (show ObjOk X.prog X.w _ _ _ (.frz { cls := .type "tuple", data := .seq its.toArray } (.tup ys)) from ⟨Heap.get?_push_size _ rfl, hz, its, r', IsTup.new _ _⟩)
  exact ⟨.ref h'.objs.size, _, I2, rfl, q _ _ (I1.hok.fresh (Nat.le_refl _)) rfl⟩
/-- a + b -/
def rCatF (K : PySem.W.Frag) : R2 := fun x y H Q => ∃ a b xs ys, x = .ref a ∧ y = .ref b ∧ SqT K H a xs ∧ SqT K H b ys ∧ xs.length + ys.length ≤ sizeLine ∧
  (xs = [] → Q (.ref b) H) ∧ (xs ≠ [] → ys = [] → Q (.ref a) H) ∧ (xs ≠ [] → ys ≠ [] → ∀ p o, H p = none → o.dict = none → Q (.ref p) (upd H p (.frz o (.tup (xs ++ ys)))))
theorem op_catF : OpR X (binaryOp .Add) (rCatF X.K) := by
  intro pins s σ H x y v u Q I rx ry h
  obtain ⟨a, b, xs, ys, rfl, rfl, ha, hb, hz, q0, q1, q2⟩ := h
  by_cases hx : xs = []
  · subst hx
    exact op_catA pins s σ H _ _ v u Q I rx ry ⟨a, b, [], ys, rfl, rfl, ha, hb, hz, q0, fun z => absurd rfl z, fun z => absurd rfl z⟩
  cases rx
  cases ry
  obtain ⟨its, r1, p1, _⟩ := I.tuple ha
  obtain ⟨its2, r2, p2, _⟩ := I.tuple hb
  refine HT.cat_tup p1 p2 (fun z => hx (r1.nil_iff.mp z)) (fun z => ⟨.ref a, H, I, rfl, q1 hx (r2.nil_iff.mp z)⟩) (fun z => ?_) (by rw [← r1.length, ← r2.length]; exact hz)
  refine ⟨.ref s.heap.objs.size, _, I.laid (t' := s.toks) (o := .frz { cls := .type "tuple", data := .seq (its ++ its2).toArray } (.tup (xs ++ ys))) (fun b ob q => Heap.get?_push_of_some _ q) (Nat.le_refl _) ?_, rfl, q2 hx (fun w => z (r2.nil_iff.mpr w)) _ _ (I.hok.fresh (Nat.le_refl _)) rfl⟩
  exact ⟨Heap.get?_push_size _ rfl, by rw [List.length_append]; exact hz, _, r1.append r2, IsTup.new _ _⟩
end HE
namespace Mine
open PySem PySem.Spec L2
theorem kTupF {X : Cx} (K : PySem.W.Frag) (h : X.K = K := by rfl) : CallR X (.type "tuple") (HE.rTupF K) := by subst h; exact HE.call_tupF
theorem kCatF {X : Cx} (K : PySem.W.Frag) (h : X.K = K := by rfl) : OpR X (binaryOp .Add) (HE.rCatF K) := by subst h; exact HE.op_catF
variable {K : PySem.W.Frag} {σ : St} {H : Hp} {Q : VK} {a b : Addr} {xs ys : List V}
theorem rd_tupF {t : TA} (h : t σ H fun xs H1 => xs.length ≤ sizeLine ∧ ∀ p o, H1 p = none → o.dict = none → Q (.ref p) (upd H1 p (.frz o (.tup xs)))) : HE.tTupF t σ H Q := h
theorem rd_bmT {r : V → List V → Hp → VK → Prop} {te : TE} {t : TA} (h : te σ H fun x H1 => (∃ a xs, x = .ref a ∧ HE.FT H1 a xs) ∧ t σ H1 fun xs H2 => r x xs H2 Q) : HE.tBMt r te t σ H Q := h
theorem rd_tyF {R : Prop} (s : HE.FT H a xs) (h : R) : (∃ a' xs', V.ref a = .ref a' ∧ HE.FT H a' xs') ∧ R := ⟨⟨a, xs, rfl, s⟩, h⟩
theorem FTmk {o : Obj} (h : o.dict = none) : HE.FT (upd H a (.frz o (.tup xs))) a xs := ⟨o, upd_same, h⟩
theorem FT.same {H' : Hp} (h : HE.FT H a xs) (s : Same H H') : HE.FT H' a xs := by
  obtain ⟨o, e, d⟩ := h
  exact ⟨o, s _ _ e, d⟩
theorem FT.sb {H' : Hp} (h : HE.FT H a xs) (s : SB b H H') (n : a ≠ b) : HE.FT H' a xs := by
  obtain ⟨o, e, d⟩ := h
  exact ⟨o, s _ _ n e, d⟩
theorem u_tupF (s : SqL K H a xs) (h : ∀ q H', Same H H' → HE.FT H' q xs → Q (.ref q) H') : HE.rTupF K [.ref a] H Q := ⟨a, xs, rfl, s, fun l o hl ho => h l _ (same_new hl _) (FTmk ho)⟩
theorem u_catF (ha : SqT K H a xs) (hb : HE.FT H b ys) (n : ys ≠ []) (l : xs.length + ys.length ≤ sizeLine) (h : ∀ q H', Same H H' → HE.FT H' q (xs ++ ys) → Q (.ref q) H') : HE.rCatF K (.ref a) (.ref b) H Q :=
  ⟨a, b, xs, ys, rfl, rfl, ha, hb.sq, l, fun e => h _ _ (Same.refl H) (by rw [e]; exact hb), fun _ e => absurd e n, fun _ _ p o hp ho => h p _ (same_new hp _) (FTmk ho)⟩
theorem u_catG (ha : HE.FT H a xs) (hb : SqT K H b ys) (n : xs ≠ []) (l : xs.length + ys.length ≤ sizeLine) (h : ∀ q H', Same H H' → HE.FT H' q (xs ++ ys) → Q (.ref q) H') : HE.rCatF K (.ref a) (.ref b) H Q :=
  ⟨a, b, xs, ys, rfl, rfl, ha.sq, hb, l, fun e => absurd e n, fun _ e => h _ _ (Same.refl H) (by rw [e, List.append_nil]; exact ha), fun _ _ p o hp ho => h p _ (same_new hp _) (FTmk ho)⟩
end Mine

/-! ### R00 -/
namespace Mine
open PySem PySem.Spec L2
def top (i : Nat) : Stmt := PySem.Challenge.pw_hillrooms_k10_branchwise_and_first_order.main.body.getD i (.Pass ⟨0, 0, 0, 0⟩)
/-- no global stands before these built-ins -/
structure Bl (mg : Str → Option Value) : Prop where
  all : mg "all" = none
  enumerate : mg "enumerate" = none
  sorted : mg "sorted" = none
  zip : mg "zip" = none
  bool : mg "bool" = none
  int : mg "int" = none
  isinstance : mg "isinstance" = none
  len : mg "len" = none
  max : mg "max" = none
  min : mg "min" = none
  range : mg "range" = none
  str : mg "str" = none
  tuple : mg "tuple" = none
/-- the source of draws: two numbers -/
def Src (H : Hp) (a : Addr) : Prop := ∃ b s : Int, H a = some (.lst [.int b, .int s]) ∧ 0 ≤ b ∧ 0 ≤ s ∧ s < 2147483647
theorem Src.ext {K : PySem.W.Frag} {H H' : Hp} {a : Addr} (h : Src H a) (s : SB a H H') : Ext K H H' := by
  obtain ⟨b, t, e, _⟩ := h
  exact Ext.of_SB s e trivial
theorem Src.ne {H : Hp} {a p : Addr} (h : Src H a) (hp : H p = none) : p ≠ a := by
  obtain ⟨b, t, e, _⟩ := h
  intro z
  rw [z, e] at hp
  cases hp
theorem Src.new {H : Hp} {a p : Addr} {o : HO} (h : Src H a) (hp : H p = none) : Src (upd H p o) a := by
  have n := h.ne hp
  obtain ⟨b, t, e, x⟩ := h
  exact ⟨b, t, by rw [upd_ne n.symm]; exact e, x⟩
theorem Src.set {H : Hp} {a p : Addr} {o : HO} (h : Src H a) (n : p ≠ a) : Src (upd H p o) a := by
  obtain ⟨b, t, e, x⟩ := h
  exact ⟨b, t, by rw [upd_ne n.symm]; exact e, x⟩
theorem Src.same {H H' : Hp} {a : Addr} (h : Src H a) (s : Same H H') : Src H' a := by
  obtain ⟨b, t, e, x⟩ := h
  exact ⟨b, t, s _ _ e, x⟩
/-- one draw -/
def spTake : Sp := fun vs H Q _ => ∃ (a : Addr) (t : Int), vs = [.ref a, .int t] ∧ Src H a ∧ 0 < t ∧ t < 1073741824 ∧
  ∀ (H' : Hp) (r : Int), SB a H H' → Src H' a → 0 ≤ r → r < t → Q (.int r) H'
theorem use_take {a : Addr} {t : Int} {H : Hp} {Q : VK} {E : XK} (h : Src H a) (h1 : 0 < t) (h2 : t < 1073741824) (q : ∀ (H' : Hp) (r : Int), SB a H H' → Src H' a → 0 ≤ r → r < t → Q (.int r) H') :
    spTake [.ref a, .int t] H Q E := ⟨a, t, rfl, h, h1, h2, q⟩
/-- one of a list -/
def spOne (K : PySem.W.Frag) : Sp := fun vs H Q _ => ∃ (a p : Addr) (xs : List V), vs = [.ref a, .ref p] ∧ Src H a ∧ SqL K H p xs ∧ p ≠ a ∧ 0 < xs.length ∧ xs.length < 1000 ∧
  ∀ (H' : Hp) (v : V), SB a H H' → Src H' a → v ∈ xs → Q v H'
theorem use_one {K : PySem.W.Frag} {a p : Addr} {xs : List V} {H : Hp} {Q : VK} {E : XK} (h : Src H a) (s : SqL K H p xs) (n : p ≠ a) (h1 : 0 < xs.length) (h2 : xs.length < 1000) (q : ∀ (H' : Hp) (v : V), SB a H H' → Src H' a → v ∈ xs → Q v H') :
    spOne K [.ref a, .ref p] H Q E := ⟨a, p, xs, rfl, h, s, n, h1, h2, q⟩
theorem SB.seqL {K : PySem.W.Frag} {a p : Addr} {H H' : Hp} {xs : List V} (s : SB a H H') (n : p ≠ a) (h : SqL K H p xs) : SqL K H' p xs := by
  rcases h with (h | ⟨o, h⟩) | h
  · exact .inl (.inl (s _ _ n h))
  · exact .inl (.inr ⟨o, s _ _ n h⟩)
  · exact .inr h
theorem at_in {xs : List V} {i : Int} (h0 : 0 ≤ i) (h1 : i < (xs.length : Int)) : ∃ v, atI xs i = some v ∧ v ∈ xs := by
  have hk : i.toNat < xs.length := by omega
  have e : i = ((i.toNat : Nat) : Int) := by omega
  have q : atI xs ((i.toNat : Nat) : Int) = some xs[i.toNat] := atI_nat (List.getElem?_eq_getElem hk)
  rw [← e] at q
  exact ⟨xs[i.toNat], q, List.getElem_mem hk⟩
theorem Same.upd_new {H H' : Hp} {D : Addr} {o : HO} (s : Same H H') (hD : H D = none) : Same H (upd H' D o) := fun b u h => by
  rw [upd_ne (ne_of_none h hD)]; exact s b u h
theorem at_ints {ns : List Int} {i : Int} (h0 : 0 ≤ i) (h1 : i < (ns.length : Int)) : ∃ n : Int, atI (ns.map V.int) i = some (.int n) := by
  obtain ⟨v, e, m⟩ := at_in (xs := ns.map V.int) h0 (by rw [List.length_map]; exact h1)
  obtain ⟨n, _, rfl⟩ := List.mem_map.mp m
  exact ⟨n, e⟩
theorem ll {n : Nat} (h : n ≤ 1000000) : n ≤ sizeLine := Nat.le_trans h (by decide)
theorem lk {n : Nat} (h : Nat.ble n 1000000 = true) : n ≤ sizeLine := ll (Nat.le_of_ble_eq_true h)
theorem ls {n : Nat} (h : n ≤ 1000000) : n < sizeLine := Nat.lt_of_le_of_lt h (by decide)
theorem cm {p : Bool} : -(2 ^ 64) < (if p then (1 : Int) else 0) ∧ (if p then (1 : Int) else 0) < 2 ^ 64 := by cases p <;> decide
theorem isE {ns : List Int} (h : (!(ns.map V.int).isEmpty) = true) : 0 < ns.length := by
  cases ns with
  | nil => cases h
  | cons a r => exact Nat.succ_pos _
end Mine

/-! ### M0 -/
namespace Mine
open PySem PySem.Spec L2
abbrev Letters : Str := "abcdefghijklmnopqrstuvwxyz"
/-! ## what the program tells of data -/
def isNum : PyData → Bool
  | .int _ => true
  | _ => false
def isBtw (d : PyData) (lo hi : Int) : Bool := match d with
  | .int i => decide (lo ≤ i) && decide (i ≤ hi)
  | _ => false
def lowAll (l : List Nat) : Bool := l.all fun c => decide (c ∈ Letters.cps.toList)
def isWord : PyData → Bool
  | .str z => decide ((1 : Int) ≤ z.length) && decide ((z.length : Int) ≤ 8) && lowAll z.cps.toList
  | _ => false
def rowNums (ds : List PyData) : Bool := ds.all fun d => isBtw d 0 1000002
def tellsRow (ds : List PyData) : Bool := decide ((1 : Int) ≤ ds.length) && decide ((ds.length : Int) ≤ 64) && rowNums ds
def tellsInput : List PyData → Bool
  | [a, b] => isWord a && isBtw b 1 64
  | _ => false
def tellsStretch : List PyData → Bool
  | [a, .int j] => isBtw (.int j) 0 64 && isBtw a 0 (j - 1)
  | _ => false
def tellsTimes : List PyData → Bool
  | [a] => isBtw a 1 16
  | _ => false
def tellsRoom : List PyData → Bool
  | [a] => isBtw a 0 64
  | _ => false
theorem dats_get : ∀ {ds : List PyData} {i : Nat} {d : PyData}, dats ds → ds[i]? = some d → dat d
  | [], _, _, _, e => by simp at e
  | a :: r, 0, d, h, e => by
    have q : a = d := by simpa using e
    rw [← q]; exact h.1
  | a :: r, i + 1, d, h, e => dats_get (ds := r) (i := i) h.2 (by simpa using e)
theorem dats_append : ∀ {a b : List PyData}, dats a → dats b → dats (a ++ b)
  | [], _, _, h => h
  | x :: r, b, h, k => ⟨h.1, dats_append h.2 k⟩
theorem dats_reverse : ∀ {a : List PyData}, dats a → dats a.reverse
  | [], _ => trivial
  | x :: r, h => by rw [List.reverse_cons]; exact dats_append (dats_reverse h.2) ⟨h.1, trivial⟩
theorem dats_dropLast : ∀ {a : List PyData}, dats a → dats a.dropLast
  | [], _ => trivial
  | [x], _ => trivial
  | x :: y :: r, h => ⟨h.1, dats_dropLast h.2⟩
theorem dats_mem : ∀ {ds : List PyData} {d : PyData}, dats ds → d ∈ ds → dat d
  | a :: r, d, h, m => by
    rcases List.mem_cons.mp m with rfl | m
    · exact h.1
    · exact dats_mem h.2 m
theorem app_list (x y : Str) : (x ++ y).cps.toList = x.cps.toList ++ y.cps.toList := by
  show (x.cps ++ y.cps).toList = _
  simp
theorem len_list (x : Str) : x.length = x.cps.toList.length := by
  show x.cps.size = _
  simp
/-- two numbers that end the range are tuples of two by turns -/
theorem all_map {α : Type} (f : α → Bool) (l : List α) : (l.map f).all id = l.all f := by
  induction l with
  | nil => rfl
  | cons a r ih => rw [List.map_cons, List.all_cons, List.all_cons, ih] <;> rfl
end Mine

/-! ### M1 -/
namespace Mine
open PySem PySem.Spec L2
/-- the ops: how few parts, how many -/
def op0 : List Str := ["row", "in"]
def op1 : List Str := ["rev", "sort", "sum", "top", "part", "rep", "hold"]
def op2 : List Str := ["add", "sub", "mul", "dot", "outer", "blend"]
def arity (z : Str) : Option (Int × Int) := if z ∈ op0 then some (0, 0) else if z ∈ op1 then some (1, 1) else if z ∈ op2 then some (2, 2) else if z = "cat" then some (1, 4) else none
def asks (z : Str) : Option (List PyData → Bool) := if z = "row" then some tellsRow else if z = "in" then some tellsInput else if z = "part" then some tellsStretch else if z = "rep" then some tellsTimes else if z = "hold" then some tellsRoom else none
def toldFits (z : Str) (ds : List PyData) : Bool := match arity z with
  | none => false
  | some _ => match asks z with
    | none => decide ((ds.length : Int) = 0)
    | some f => f ds
def partsFit (z : Str) (n : Int) : Bool := match arity z with
  | none => false
  | some (lo, hi) => decide (lo ≤ n) && decide (n ≤ hi)
theorem fits_arity {z : Str} {ds : List PyData} (h : toldFits z ds = true) : ∃ lo hi, arity z = some (lo, hi) := by
  unfold toldFits at h
  cases e : arity z with
  | none => rw [e] at h; cases h
  | some p => exact ⟨p.1, p.2, rfl⟩
def isTri : PyData → Bool
  | .tuple [.str _, .tuple _, .tuple _] => true
  | _ => false
inductive Flt | many | prog | op | parts
  deriving DecidableEq
def fval : Flt → Int → Int
  | .many, _ => 41
  | _, n => n
/-- the fault of a joint -/
def jf (d : PyData) (n : Int) : Option Flt := if 40 ≤ n then some .many else match d with
  | .tuple [.str op, .tuple told, .tuple parts] => if toldFits op told = true then (if partsFit op parts.length = true then none else some .parts) else some .op
  | _ => some .prog
def partsOf : PyData → List PyData
  | .tuple [_, _, .tuple parts] => parts
  | _ => []
/-- the walk by numbers -/
def walk : Nat → List PyData → Int → Option (Flt × Int)
  | 0, _, _ => none
  | _ + 1, [], _ => none
  | k + 1, d :: r, n => match jf d n with
    | some f => some (f, fval f n)
    | none => walk k (partsOf d ++ r) (n + 1)
theorem jf_many {d : PyData} {n : Int} (h : jf d n = none) : n < 40 := by
  unfold jf at h
  by_cases c : 40 ≤ n
  · rw [if_pos c] at h; cases h
  · omega
theorem jf_tri {d : PyData} {n : Int} (h : jf d n = none) : ∃ op told parts, d = .tuple [.str op, .tuple told, .tuple parts] := by
  have c := jf_many h
  unfold jf at h
  rw [if_neg (by omega)] at h
  split at h
  · exact ⟨_, _, _, rfl⟩
  · cases h
theorem walk_none {k : Nat} {n : Int} : walk k [] n = none := by cases k <;> rfl
end Mine
namespace Mine
open PySem PySem.Spec L2
def isProg (d : PyData) : Bool := (walk 42 [d] 0).isNone
/-- the answer in words: ('good', d) or (word, number) -/
def fword : Flt → Str
  | .many => "many"
  | .prog => "program"
  | .op => "op"
  | .parts => "parts"
def due (d : PyData) : PyData := match walk 42 [d] 0 with
  | none => .tuple [.str "good", d]
  | some (f, n) => .tuple [.str (fword f), .int n]
end Mine
namespace Mine
open PySem PySem.Spec L2
def isIntD : PyData → Bool
  | .int _ => true
  | _ => false
theorem isInt_isT {d : PyData} (h : dat d) : isT "int" d = isIntD d := by
  cases d with
  | bool b => simp only [dat] at h
  | list b => simp only [dat] at h
  | dict b => simp only [dat] at h
  | none => rfl
  | int i => rfl
  | str i => rfl
  | tuple i => rfl
theorem btw_int {d : PyData} {lo hi : Int} (h : isBtw d lo hi = true) : isIntD d = true := by cases d <;> first | rfl | cases h
theorem fits_row {ds : List PyData} : toldFits "row" ds = tellsRow ds := rfl
theorem fits_in {ds : List PyData} : toldFits "in" ds = tellsInput ds := rfl
theorem fits_part {ds : List PyData} : toldFits "part" ds = tellsStretch ds := rfl
theorem fits_rep {ds : List PyData} : toldFits "rep" ds = tellsTimes ds := rfl
theorem fits_hold {ds : List PyData} : toldFits "hold" ds = tellsRoom ds := rfl
def ops11 : List Str := ["rev", "sort", "sum", "top", "add", "sub", "mul", "dot", "cat", "outer", "blend"]
theorem fits_other {z : Str} {ds : List PyData} (h1 : z ≠ "row") (h2 : z ≠ "in") (h3 : z ≠ "part") (h4 : z ≠ "rep") (h5 : z ≠ "hold") : toldFits z ds = (decide (z ∈ ops11) && ds.isEmpty) := by
  have ea : asks z = none := by unfold asks; rw [if_neg h1, if_neg h2, if_neg h3, if_neg h4, if_neg h5]
  have eb : (decide ((ds.length : Int) = 0)) = ds.isEmpty := by
    cases ds with
    | nil => rfl
    | cons a r =>
      show decide (((r.length + 1 : Nat) : Int) = 0) = false
      exact decide_eq_false (by omega)
  unfold toldFits
  by_cases hz : z ∈ ops11
  · have hs : ∃ p, arity z = some p := by
      have k : ∀ y ∈ ops11, (arity y).isSome = true := by decide +kernel
      exact Option.isSome_iff_exists.mp (k z hz)
    obtain ⟨p, ep⟩ := hs
    rw [ep, ea, decide_eq_true hz, Bool.true_and]
    exact eb
  · have hn : arity z = none := by
      unfold arity
      have k0 : ∀ y ∈ op0, y = "row" ∨ y = "in" := by decide +kernel
      have k1 : ∀ y ∈ op1, y ∈ ops11 ∨ y = "part" ∨ y = "rep" ∨ y = "hold" := by decide +kernel
      have k2 : ∀ y ∈ op2, y ∈ ops11 := by decide +kernel
      have k3 : ("cat" : Str) ∈ ops11 := by decide +kernel
      rw [if_neg (fun h => (k0 z h).elim h1 h2), if_neg (fun h => (k1 z h).elim hz fun h => h.elim h3 fun h => h.elim h4 h5), if_neg (fun h => hz (k2 z h)), if_neg (fun (h : z = "cat") => hz (by rw [h]; exact k3))]
    rw [hn, decide_eq_false hz, Bool.false_and]
/-- told things of an op but "in" are numbers -/
theorem fits_ints {z : Str} {ds : List PyData} (h2 : z ≠ "in") (h : toldFits z ds = true) : ds.all isIntD = true := by
  by_cases c1 : z = "row"
  · subst c1
    rw [fits_row] at h
    unfold tellsRow rowNums at h
    have h' := (Bool.and_eq_true_iff.mp h).2
    rw [List.all_eq_true] at h' ⊢
    exact fun d hd => btw_int (h' d hd)
  by_cases c3 : z = "part"
  · subst c3
    rw [fits_part] at h
    unfold tellsStretch at h
    split at h
    · rename_i a j
      have h' := Bool.and_eq_true_iff.mp h
      have h3 : isIntD (.int j) = true := rfl
      simp only [List.all_cons, btw_int h'.2, h3, List.all_nil, Bool.and_self]
    · cases h
  by_cases c4 : z = "rep"
  · subst c4
    rw [fits_rep] at h
    unfold tellsTimes at h
    split at h
    · simp only [List.all_cons, btw_int h, List.all_nil, Bool.and_self]
    · cases h
  by_cases c5 : z = "hold"
  · subst c5
    rw [fits_hold] at h
    unfold tellsRoom at h
    split at h
    · simp only [List.all_cons, btw_int h, List.all_nil, Bool.and_self]
    · cases h
  rw [fits_other c1 h2 c3 c4 c5] at h
  have h' := (Bool.and_eq_true_iff.mp h).2
  cases ds with
  | nil => rfl
  | cons a r => cases h'
theorem eqv_nil : ∀ xs : List PyData, PyData.eqv (.list xs) (.list []) = xs.isEmpty
  | [] => by simp [PyData.eqv, PyData.eqvAll]
  | a :: r => by simp [PyData.eqv, PyData.eqvAll]
theorem filter_empty {p : PyData → Bool} : ∀ ds : List PyData, (ds.filter fun d => !p d).isEmpty = ds.all p
  | [] => rfl
  | a :: r => by
    rw [List.filter_cons, List.all_cons]
    cases h : p a with
    | true => simp only [Bool.not_true, Bool.true_and, Bool.false_eq_true, if_false]; exact filter_empty r
    | false => simp only [Bool.not_false, if_true, Bool.false_and]; rfl
theorem dats_filter {p : PyData → Bool} : ∀ {ds : List PyData}, dats ds → dats (ds.filter p)
  | [], _ => trivial
  | a :: r, h => by
    rw [List.filter_cons]
    split
    · exact ⟨h.1, dats_filter h.2⟩
    · exact dats_filter h.2
theorem Rps.filter_snoc {K : PySem.W.Frag} {H : Hp} {ws : List V} {v : V} {d : PyData} {ds : List PyData} {i : Nat} {p : PyData → Bool} (hw : Rps K H ws ((ds.take i).filter p)) (e : ds[i]? = some d) (r : Rp K H v d) (hp : p d = true) : Rps K H (ws ++ [v]) ((ds.take (i + 1)).filter p) := by
  rw [List.take_add_one, e, List.filter_append]
  refine hw.append ?_
  rw [show List.filter p (some d).toList = [d] from by rw [Option.toList_some, List.filter_cons, if_pos hp]; rfl]
  exact .one r
theorem Rps.filter_skip {K : PySem.W.Frag} {H : Hp} {ws : List V} {d : PyData} {ds : List PyData} {i : Nat} {p : PyData → Bool} (hw : Rps K H ws ((ds.take i).filter p)) (e : ds[i]? = some d) (hp : p d = false) : Rps K H ws ((ds.take (i + 1)).filter p) := by
  rw [List.take_add_one, e, List.filter_append]
  rw [show List.filter p (some d).toList = [] from by rw [Option.toList_some, List.filter_cons, hp]; rfl, List.append_nil]
  exact hw
end Mine
namespace Mine
open PySem PySem.Spec L2
theorem Rps.intsOf {K : PySem.W.Frag} {H : Hp} : ∀ {xs : List V} {ds : List PyData}, Rps K H xs ds → ds.all isIntD = true → ∃ ns : List Int, ds = ns.map PyData.int ∧ xs = ns.map V.int
  | _, _, .nil, _ => ⟨[], rfl, rfl⟩
  | _, _, .cons (v := v) (d := d) h t, e => by
    rw [List.all_cons, Bool.and_eq_true] at e
    obtain ⟨ns, e1, e2⟩ := Rps.intsOf t e.2
    cases h with
    | int i => exact ⟨i :: ns, by rw [e1]; rfl, by rw [e2]; rfl⟩
    | non => cases e.1
    | bl _ => cases e.1
    | str _ => cases e.1
    | tup _ _ => cases e.1
def inRow (d : PyData) : Bool := isBtw d 0 1000002
end Mine
namespace Mine
open PySem PySem.Spec L2
theorem inV_str (z : Str) : ∀ l : List Str, inV (.str z) (l.map V.str) = decide (z ∈ l) := by
  intro l
  unfold inV
  rw [List.any_map]
  induction l with
  | nil => rfl
  | cons a r ih =>
    rw [List.any_cons, ih]
    have e3 : eqV (V.str a) (V.str z) = decide (z = a) := by
      show (a == z) = _
      by_cases c : z = a
      · subst c; simp
      · rw [decide_eq_false c]
        exact beq_eq_false_iff_ne.mpr (fun h => c h.symm)
    show (eqV (V.str a) (V.str z) || decide (z ∈ r)) = _
    rw [e3]
    simp [List.mem_cons]
theorem flat_strs : ∀ l : List Str, (l.map V.str).all flatV = true
  | [] => rfl
  | _ :: r => by rw [List.map_cons, List.all_cons, flat_strs r] <;> rfl
theorem jf_prog {d : PyData} {n : Int} (h : n < 40) (c : ¬ ∃ op told parts, d = .tuple [.str op, .tuple told, .tuple parts]) : jf d n = some .prog := by
  unfold jf
  rw [if_neg (by omega)]
  split
  · exact absurd ⟨_, _, _, rfl⟩ c
  · rfl
theorem walk_step {k : Nat} {d : PyData} {r : List PyData} {n : Int} : walk (k + 1) (d :: r) n = match jf d n with
    | some f => some (f, fval f n)
    | none => walk k (partsOf d ++ r) (n + 1) := rfl
end Mine
namespace Mine
open PySem PySem.Spec L2
theorem isT_str {d : PyData} (h : isT "str" d = true) : ∃ z, d = .str z := by
  cases d with
  | str z => exact ⟨z, rfl⟩
  | none => cases h
  | bool _ => exact absurd h (by simp only [isT]; decide)
  | int _ => exact absurd h (by simp only [isT]; decide)
  | tuple _ => exact absurd h (by simp only [isT]; decide)
  | list _ => cases h
  | dict _ => cases h
theorem isT_tuple {d : PyData} (h : isT "tuple" d = true) : ∃ z, d = .tuple z := by
  cases d with
  | tuple z => exact ⟨z, rfl⟩
  | none => exact absurd h (by simp only [isT]; decide)
  | bool _ => exact absurd h (by simp only [isT]; decide)
  | int _ => exact absurd h (by simp only [isT]; decide)
  | str _ => exact absurd h (by simp only [isT]; decide)
  | list _ => cases h
  | dict _ => cases h
end Mine

/-! ### M2 -/
namespace Mine
open PySem PySem.Spec L2
theorem okS_of {z : Str} (h1 : z.length ≤ 1000) (h2 : PyData.strOk z = true) : okS z := ⟨h1, by simp only [PyData.canLay0]; exact h2⟩
/-! ## programs as trees -/
inductive Jn where
  | mk (op : Str) (told : List PyData) (parts : List Jn)
mutual
def Jn.py : Jn → PyData
  | .mk op told parts => .tuple [.str op, .tuple told, .tuple (Jn.pys parts)]
def Jn.pys : List Jn → List PyData
  | [] => []
  | j :: r => j.py :: Jn.pys r
end
mutual
def Jn.cnt : Jn → Nat
  | .mk _ _ parts => 1 + Jn.cnts parts
def Jn.cnts : List Jn → Nat
  | [] => 0
  | j :: r => j.cnt + Jn.cnts r
end
def flatD : PyData → Prop
  | .int _ => True
  | .str z => okS z
  | _ => False
mutual
def Jn.ok : Jn → Prop
  | .mk op told parts => okS op ∧ told.length ≤ 64 ∧ (∀ d ∈ told, flatD d) ∧ parts.length ≤ 4 ∧ Jn.oks parts
def Jn.oks : List Jn → Prop
  | [] => True
  | j :: r => j.ok ∧ Jn.oks r
end
mutual
def Jn.all : Jn → List Jn
  | .mk op told parts => .mk op told parts :: Jn.alls parts
def Jn.alls : List Jn → List Jn
  | [] => []
  | j :: r => j.all ++ Jn.alls r
end
theorem pys_length : ∀ l : List Jn, (Jn.pys l).length = l.length
  | [] => rfl
  | j :: r => by simp only [Jn.pys, List.length_cons, pys_length r]
theorem cnts_append : ∀ a b : List Jn, Jn.cnts (a ++ b) = Jn.cnts a + Jn.cnts b
  | [], b => by simp [Jn.cnts]
  | j :: r, b => by simp only [List.cons_append, Jn.cnts, cnts_append r b]; omega
theorem oks_append : ∀ a b : List Jn, Jn.oks a → Jn.oks b → Jn.oks (a ++ b)
  | [], b, _, h => h
  | j :: r, b, h, k => by
    simp only [List.cons_append, Jn.oks] at h ⊢
    exact ⟨h.1, oks_append r b h.2 k⟩
theorem pys_append : ∀ a b : List Jn, Jn.pys (a ++ b) = Jn.pys a ++ Jn.pys b
  | [], b => by simp [Jn.pys]
  | j :: r, b => by simp only [List.cons_append, Jn.pys, pys_append r b]
theorem flat_dat {d : PyData} (h : flatD d) : dat d := by
  cases d with
  | int i => simp only [dat]
  | str z => simpa only [dat, flatD] using h
  | none => simp only [flatD] at h
  | bool _ => simp only [flatD] at h
  | list _ => simp only [flatD] at h
  | tuple _ => simp only [flatD] at h
  | dict _ => simp only [flatD] at h
theorem flat_dats : ∀ {l : List PyData}, (∀ d ∈ l, flatD d) → dats l
  | [], _ => by simp only [dats]
  | d :: r, h => by
    simp only [dats]
    exact ⟨flat_dat (h d List.mem_cons_self), flat_dats fun x hx => h x (List.mem_cons_of_mem _ hx)⟩
theorem flat_depth : ∀ {l : List PyData}, (∀ d ∈ l, flatD d) → PyData.depthAll l = 0
  | [], _ => by simp only [PyData.depthAll]
  | d :: r, h => by
    have h1 := h d List.mem_cons_self
    have hr := flat_depth fun x hx => h x (List.mem_cons_of_mem _ hx)
    simp only [PyData.depthAll, hr]
    cases d with
    | int i => simp [PyData.depth]
    | str z => simp [PyData.depth]
    | none => simp only [flatD] at h1
    | bool _ => simp only [flatD] at h1
    | list _ => simp only [flatD] at h1
    | tuple _ => simp only [flatD] at h1
    | dict _ => simp only [flatD] at h1
mutual
theorem Jn.dat : ∀ j : Jn, j.ok → Mine.dat j.py
  | .mk op told parts, h => by
    simp only [Jn.ok] at h
    obtain ⟨h1, h2, h3, h4, h5⟩ := h
    simp only [Jn.py, Mine.dat, dats, List.length_cons, List.length_nil]
    refine ⟨by omega, h1, ⟨by omega, flat_dats h3⟩, ⟨?_, Jn.dats parts h5⟩, trivial⟩
    rw [pys_length]; omega
theorem Jn.dats : ∀ l : List Jn, Jn.oks l → Mine.dats (Jn.pys l)
  | [], _ => by simp only [Jn.pys, Mine.dats]
  | j :: r, h => by
    simp only [Jn.oks] at h
    simp only [Jn.pys, Mine.dats]
    exact ⟨Jn.dat j h.1, Jn.dats r h.2⟩
end
mutual
theorem Jn.deep : ∀ j : Jn, j.ok → j.py.depth ≤ 2 * j.cnt
  | .mk op told parts, h => by
    simp only [Jn.ok] at h
    obtain ⟨h1, h2, h3, h4, h5⟩ := h
    have hp := Jn.deeps parts h5
    simp only [Jn.py, PyData.depth, PyData.depthAll, flat_depth h3, Jn.cnt]
    omega
theorem Jn.deeps : ∀ l : List Jn, Jn.oks l → PyData.depthAll (Jn.pys l) ≤ 2 * Jn.cnts l
  | [], _ => by simp [Jn.pys, PyData.depthAll]
  | j :: r, h => by
    simp only [Jn.oks] at h
    have a := Jn.deep j h.1
    have b := Jn.deeps r h.2
    simp only [Jn.pys, PyData.depthAll, Jn.cnts]
    omega
end
theorem cnt_pos (j : Jn) : 1 ≤ j.cnt := by
  cases j
  simp only [Jn.cnt]
  omega
/-! ## a joint laid -/
theorem mkJ {K : PySem.W.Frag} {H : Hp} {op : Str} {t q p : Addr} {tv pv : List V} {td : List PyData} {parts : List Jn} (h1 : SqT K H t tv) (h2 : Rps K H tv td) (h3 : SqT K H q pv) (h4 : Rps K H pv (Jn.pys parts)) (hp : H p = none) :
    Rp K (upd H p (.tup [.str op, .ref t, .ref q])) (.ref p) (Jn.mk op td parts).py := by
  simp only [Jn.py]
  exact .tup (SqT.of upd_same) (.cons (.str op) (.cons (.tup ((Ext.new hp) _ _ h1) (h2.mono (Ext.new hp) _ _)) (.cons (.tup ((Ext.new hp) _ _ h3) (h4.mono (Ext.new hp) _ _)) .nil)))
theorem SB.upd_new {a : Addr} {H H' : Hp} {D : Addr} {o : HO} (s : SB a H H') (hD : H D = none) : SB a H (L2.upd H' D o) := fun b u n h => by
  rw [upd_ne (ne_of_none h hD)]; exact s b u n h
theorem mod_le {k n : Int} (hk : 1 ≤ k) (hn : 1 ≤ n) (h : k % n = 0) : n ≤ k ∧ 1 ≤ k / n ∧ k / n ≤ k := by
  have h1 : n ≤ k := by
    by_cases c : n ≤ k
    · exact c
    · have := Int.emod_eq_of_lt (show 0 ≤ k by omega) (show k < n by omega)
      omega
  have h2 : 1 ≤ k / n := by
    rw [Int.le_ediv_iff_mul_le (by omega)]
    omega
  have h3 : k / n ≤ k := Int.ediv_le_self _ (by omega)
  exact ⟨h1, h2, h3⟩
end Mine

/-! ### M3 -/
namespace Mine
open PySem PySem.Spec L2
/-- v is plain data of a depth of at most n -/
def Dt (K : PySem.W.Frag) (n : Nat) (H : Hp) (v : V) : Prop := ∃ d, Rp K H v d ∧ dat d ∧ d.depth ≤ n
section
variable {K : PySem.W.Frag} {n m : Nat} {H H' : Hp} {v : V} {xs ys : List V} {p a : Addr} {d : PyData}
theorem Dt.mono (h : Dt K n H v) (e : Ext K H H') : Dt K n H' v := by
  obtain ⟨d, r, x, y⟩ := h
  exact ⟨d, r.mono e _ _, x, y⟩
theorem Dt.le (h : Dt K n H v) (e : n ≤ m) : Dt K m H v := by
  obtain ⟨d, r, x, y⟩ := h
  exact ⟨d, r, x, Nat.le_trans y e⟩
theorem Dt.int (i : Int) : Dt K n H (.int i) := ⟨.int i, .int i, by simp only [dat], by simp [PyData.depth]⟩
theorem Dt.non : Dt K n H .non := ⟨.none, .non, by simp only [dat], by simp [PyData.depth]⟩
theorem Dt.str {z : Str} (h : okS z) : Dt K n H (.str z) := ⟨.str z, .str z, by simpa only [dat] using h, by simp [PyData.depth]⟩
theorem Dt.all (h : ∀ x ∈ xs, Dt K n H x) : ∃ ds, Rps K H xs ds ∧ dats ds ∧ PyData.depthAll ds ≤ n ∧ ds.length = xs.length := by
  induction xs with
  | nil => exact ⟨[], .nil, trivial, by simp [PyData.depthAll], rfl⟩
  | cons x r ih =>
    obtain ⟨ds, a, b, c, e⟩ := ih (fun y hy => h y (List.mem_cons_of_mem _ hy))
    obtain ⟨d, a1, b1, c1⟩ := h x List.mem_cons_self
    exact ⟨d :: ds, .cons a1 a, ⟨b1, b⟩, by simp only [PyData.depthAll]; omega, by simp [e]⟩
theorem Dt.tup (h : ∀ x ∈ xs, Dt K n H x) (l : xs.length ≤ 1000) (s : SqT K H p xs) : Dt K (n + 1) H (.ref p) := by
  obtain ⟨ds, a, b, c, e⟩ := Dt.all h
  exact ⟨.tuple ds, .tup s a, by simp only [dat]; exact ⟨by omega, b⟩, by simp only [PyData.depth]; omega⟩
/-- the parts of a tuple -/
theorem Dt.parts {K : PySem.W.Frag} {n : Nat} {H : Hp} : ∀ {xs : List V} {ds : List PyData}, Rps K H xs ds → dats ds → PyData.depthAll ds ≤ n → ∀ x ∈ xs, Dt K n H x
  | _, _, .nil, _, _ => fun _ z => nomatch z
  | _, _, .cons (v := v) (d := d) (ds := ds) h1 h2, h, l => by
    simp only [PyData.depthAll] at l
    intro x hx
    rcases List.mem_cons.mp hx with rfl | hx
    · exact ⟨d, h1, h.1, by omega⟩
    · exact Dt.parts h2 h.2 (by omega) x hx
theorem Dt.jn {j : Jn} (r : Rp K H v j.py) (h : j.ok) (l : 2 * j.cnt ≤ n) : Dt K n H v := ⟨_, r, Jn.dat j h, Nat.le_trans (Jn.deep j h) l⟩
/-! ## what has been laid: a stack of values -/
def atomB : V → Bool
  | .int _ => true
  | .non => true
  | .str z => decide (z.length ≤ 1000) && PyData.strOk z
  | _ => false
theorem atom_dt (h : atomB v = true) : Dt K n H v := by
  cases v with
  | int i => exact .int i
  | non => exact .non
  | str z =>
    have q : (decide (z.length ≤ 1000) && PyData.strOk z) = true := h
    have q' := Bool.and_eq_true_iff.mp q
    exact .str (okS_of (of_decide_eq_true q'.1) q'.2)
  | _ => cases h
structure Lay (K : PySem.W.Frag) (a : Addr) (H0 : Hp) (n : Nat) (L : List V) (H : Hp) : Prop where
  sb : SB a H0 H
  src : Src H a
  dt : ∀ x ∈ L, Dt K n H x
theorem Lay.start (h : Src H a) : Lay K a H 0 [] H := ⟨SB.refl, h, fun _ z => nomatch z⟩
theorem Lay.tup {H0 : Hp} {L : List V} (h : Lay K a H0 n L H) (hp : H p = none) (l : xs.length ≤ 1000) (hx : ∀ x ∈ xs, x ∈ L ∨ atomB x = true) : Lay K a H0 (n + 1) (.ref p :: L) (upd H p (.tup xs)) := by
  have e : Ext K H (upd H p (.tup xs)) := Ext.new hp
  refine ⟨h.sb.new hp, h.src.new hp, fun x hm => ?_⟩
  rcases List.mem_cons.mp hm with rfl | hm
  · refine Dt.tup (xs := xs) (fun y hy => ?_) l (SqT.of upd_same)
    rcases hx y hy with q | q
    · exact (h.dt y q).mono e
    · exact atom_dt q
  · exact ((h.dt x hm).mono e).le (Nat.le_succ _)
theorem Lay.ext {H0 : Hp} {L : List V} (h : Lay K a H0 n L H) (s : Src H0 a) : Ext K H0 H := s.ext h.sb
theorem Lay.lst {H0 : Hp} {L : List V} (h : Lay K a H0 n L H) (hp : H p = none) : Lay K a H0 n L (upd H p (.lst xs)) := by
  have e : Ext K H (upd H p (.lst xs)) := Ext.new hp
  exact ⟨h.sb.new hp, h.src.new hp, fun x hm => (h.dt x hm).mono e⟩
theorem Lay.sbx {H0 : Hp} {L : List V} (h : Lay K a H0 n L H) (s : SB a H H') (hs : Src H' a) : Lay K a H0 n L H' := ⟨h.sb.trans s, hs, fun x hm => (h.dt x hm).mono (h.src.ext s)⟩
theorem Lay.push {H0 : Hp} {L : List V} (h : Lay K a H0 n L H) (d : Dt K m H v) (l : n ≤ m) : Lay K a H0 m (v :: L) H := ⟨h.sb, h.src, fun x hm => by
  rcases List.mem_cons.mp hm with rfl | hm
  · exact d
  · exact (h.dt x hm).le l⟩
theorem Lay.any {H0 : Hp} {L : List V} (h : Lay K a H0 n L H) (hx : ∀ x ∈ xs, x ∈ L ∨ atomB x = true) : ∀ x ∈ xs, Dt K n H x := fun y hy => by
  rcases hx y hy with q | q
  · exact h.dt y q
  · exact atom_dt q
theorem al0 {L : List V} : ∀ x ∈ ([] : List V), x ∈ L ∨ atomB x = true := fun _ z => nomatch z
theorem al1 {L : List V} {r : List V} (h : v ∈ L ∨ atomB v = true) (k : ∀ x ∈ r, x ∈ L ∨ atomB x = true) : ∀ x ∈ v :: r, x ∈ L ∨ atomB x = true := fun x hm => by
  rcases List.mem_cons.mp hm with rfl | hm
  · exact h
  · exact k x hm
/-! ## readings: dicts, tuples -/
variable {Q : VK} {σ : St}
theorem rd_dnew (h : ∀ p, H p = none → Q (.ref p) (upd H p (.dK []))) : tDNewK σ H Q := h
theorem rd_din {ty td : TE} (h : ty σ H fun y H1 => td σ H1 fun x H2 => ∃ a o, x = .ref a ∧ DGet H2 a y o ∧ Q (.bl o.isSome) H2) : tDIn ty td σ H Q := h
theorem u_din {i : Int} {kvs : List (Key × V)} {R : Option V → Prop} (e : H a = some (.dK kvs)) (h : R (valV kvs (Sum.inl i))) : ∃ a' o, V.ref a = .ref a' ∧ DGet H a' (.int i) o ∧ R o := ⟨a, _, rfl, DGet.k (k := Sum.inl i) e, h⟩
theorem rd_dget {ty td : TE} (h : td σ H fun x H1 => ty σ H1 fun y H2 => ∃ a v, x = .ref a ∧ DGet H2 a y (some v) ∧ Q v H2) : tDGet td ty σ H Q := h
theorem u_dget {i : Int} {kvs : List (Key × V)} {R : V → Prop} (e : H a = some (.dK kvs)) (ev : valV kvs (Sum.inl i) = some v) (h : R v) : ∃ a' v', V.ref a = .ref a' ∧ DGet H a' (.int i) (some v') ∧ R v' := ⟨a, v, rfl, by rw [← ev]; exact DGet.k (k := Sum.inl i) e, h⟩
theorem rd_dput {ty td tv : TE} {n bk ct : St → Hp → Prop} {rt : VK} (h : tv σ H fun v H1 => td σ H1 fun x H2 => ty σ H2 fun y H3 => ∃ a H4, x = .ref a ∧ DPut H3 a y v H4 ∧ n σ H4) : sDPut td ty tv ⟨n, rt, bk, ct⟩ σ H := h
theorem u_dput {i : Int} {kvs : List (Key × V)} {R : Hp → Prop} (e : H a = some (.dK kvs)) (l : kvs.length < sizeLine) (h : R (upd H a (.dK (putK kvs (Sum.inl i) v)))) : ∃ a' H4, V.ref a = .ref a' ∧ DPut H a' (.int i) v H4 ∧ R H4 := ⟨a, _, rfl, DPut.k (k := Sum.inl i) e l, h⟩
theorem rd_disp1 {tk tv : TE} (h : ∀ p, H p = none → tk σ (upd H p (.dK [])) fun x H1 => tv σ H1 fun y H2 => H2 p = some (.dK []) ∧ ∃ kvs : List (Key × V), [(x, y)] = kvs.map (fun kv => (kV kv.1, kv.2)) ∧ kvs.length ≤ 15 ∧ Q (.ref p) (upd H2 p (.dK (mergeK [] kvs)))) : tDisp [(tk, tv)] σ H Q := h
theorem merge1 {k : Key} {y : V} : mergeK [] [(k, y)] = [(k, y)] := rfl
theorem u_disp1 {i : Int} {y : V} {R : List (Key × V) → Prop} (e : H p = some (.dK [])) (h : R [(Sum.inl i, y)]) : H p = some (.dK []) ∧ ∃ kvs : List (Key × V), [(V.int i, y)] = kvs.map (fun kv => (kV kv.1, kv.2)) ∧ kvs.length ≤ 15 ∧ R kvs := ⟨e, [(Sum.inl i, y)], rfl, by simp, h⟩
theorem rd_sl {r : V → Option Int → Option Int → Hp → VK → Prop} {te : TE} {tl th : TO} (h : te σ H fun x H1 => tl σ H1 fun l H2 => th σ H2 fun u H3 => r x l u H3 Q) : tSl r te tl th σ H Q := h
theorem rd_part {te : TE} {R : Option Int → Hp → Prop} (h : te σ H fun x H1 => ∃ i, x = .int i ∧ R (some i) H1) : tPart te σ H R := h
theorem rd_partI {i : Int} {R : Int → Prop} (h : R i) : ∃ i', V.int i = .int i' ∧ R i' := ⟨i, rfl, h⟩
theorem rd_nopart {R : Option Int → Hp → Prop} (h : R none H) : tNoPart σ H R := h
theorem u_slT {lo hi : Option Int} (ha : SqT K H a xs) (h0 : Q (.ref a) H) (h : ∀ p, H p = none → Q (.ref p) (upd H p (.tup (cutV xs lo hi)))) : rSlU K (.ref a) lo hi H Q := .inr ⟨a, xs, rfl, ha, fun _ => h0, fun _ => h⟩
theorem cut_mem {lo hi : Option Int} {x : V} (h : x ∈ cutV xs lo hi) : x ∈ xs := List.mem_of_mem_drop (List.mem_of_mem_take h)
theorem u_catT {b : Addr} (ha : SqT K H a xs) (hb : SqT K H b ys) (l : xs.length + ys.length ≤ sizeLine) (n1 : ys ≠ []) (h0 : xs = [] → Q (.ref b) H) (h : xs ≠ [] → ∀ p, H p = none → Q (.ref p) (upd H p (.tup (xs ++ ys)))) : rAddU K (.ref a) (.ref b) H Q :=
  .inr (.inr (.inr ⟨a, b, xs, ys, rfl, rfl, ha, hb, l, h0, fun _ z => absurd z n1, fun x _ => h x⟩))
theorem u_repT {i : Int} (ha : SqT K H a xs) (n0 : xs ≠ []) (h1 : 2 ≤ i) (h2 : i ≤ 1000) (l : xs.length ≤ 1000) (h : ∀ p, H p = none → Q (.ref p) (upd H p (.tup (List.replicate i.toNat xs).flatten))) : rMulU K (.ref a) (.int i) H Q :=
  .inr (.inr ⟨a, i, xs, rfl, rfl, ha, n0, h1, h2, l, h⟩)
theorem Lay.same {H0 : Hp} {L : List V} (h : Lay K a H0 n L H) (s : Same H H') : Lay K a H0 n L H' := h.sbx (SB.of_same s) (h.src.same s)
theorem Lay.le {H0 : Hp} {L : List V} (h : Lay K a H0 n L H) (e : n ≤ m) : Lay K a H0 m L H := ⟨h.sb, h.src, fun x hx => (h.dt x hx).le e⟩
theorem Lay.sub {H0 : Hp} {L M : List V} (h : Lay K a H0 n L H) (e : ∀ x ∈ M, x ∈ L) : Lay K a H0 n M H := ⟨h.sb, h.src, fun x hx => h.dt x (e x hx)⟩
theorem SB.fresh {b : Addr} (s : SB a H H') (n : b ≠ a) (h : H' b = none) : H b = none := by
  cases e : H b with
  | none => rfl
  | some o => rw [s b o n e] at h; cases h
theorem Lay.write {H0 : Hp} {L : List V} {D : Addr} {o u : HO} (h : Lay K a H0 n L H) (hD : H0 D = none) (nd : D ≠ a) (e : H D = some o) (hn : noTup o) : Lay K a H0 n L (upd H D u) := ⟨h.sb.upd_new hD, h.src.set nd, fun x hx => (h.dt x hx).mono (Ext.set e hn)⟩
theorem u_slD {lo hi : Option Int} (ha : SqT K H a xs) (hd : ∀ x ∈ xs, Dt K n H x) (hl : xs.length ≤ 1000) (h : ∀ q H', Same H H' → Dt K (n + 1) H' (.ref q) → Q (.ref q) H') : rSlU K (.ref a) lo hi H Q :=
  u_slT ha (h a H (Same.refl H) (Dt.tup hd hl ha)) fun p hp => h p _ (same_new hp _) (Dt.tup (xs := cutV xs lo hi) (fun x hx => (hd x (cut_mem hx)).mono (Ext.new hp)) (Nat.le_trans (cutV_length xs lo hi) hl) (SqT.of upd_same))
theorem u_catD {b : Addr} (ha : SqT K H a xs) (hb : SqT K H b ys) (hd : ∀ x ∈ xs, Dt K n H x) (he : ∀ x ∈ ys, Dt K n H x) (hl : xs.length + ys.length ≤ 1000) (n1 : ys ≠ []) (h : ∀ q H', Same H H' → Dt K (n + 1) H' (.ref q) → Q (.ref q) H') : rAddU K (.ref a) (.ref b) H Q :=
  u_catT ha hb (ll (by omega)) n1 (fun _ => h b H (Same.refl H) (Dt.tup he (by omega) hb)) fun _ p hp => h p _ (same_new hp _) (Dt.tup (xs := xs ++ ys) (fun x hx => (by
    rcases List.mem_append.mp hx with h1 | h1
    · exact (hd x h1).mono (Ext.new hp)
    · exact (he x h1).mono (Ext.new hp))) (by rw [List.length_append]; exact hl) (SqT.of upd_same))
end
/-! ## a joint read -/
theorem Rp.jn {K : PySem.W.Frag} {H : Hp} {v : V} {op : Str} {td : List PyData} {parts : List Jn} (h : Rp K H v (Jn.mk op td parts).py) :
    ∃ (p t q : Addr) (tv pv : List V), v = .ref p ∧ SqT K H p [.str op, .ref t, .ref q] ∧ SqT K H t tv ∧ Rps K H tv td ∧ SqT K H q pv ∧ Rps K H pv (Jn.pys parts) := by
  simp only [Jn.py] at h
  cases h with
  | tup s r =>
    cases r with
    | cons r1 r =>
      cases r with
      | cons r2 r =>
        cases r with
        | cons r3 r =>
          cases r
          cases r1
          cases r2 with
          | tup s2 q2 =>
            cases r3 with
            | tup s3 q3 => exact ⟨_, _, _, _, _, rfl, s, s2, q2, s3, q3⟩
theorem pys_get : ∀ (l : List Jn) (i : Nat), (Jn.pys l)[i]? = (l[i]?).map Jn.py
  | [], i => by simp [Jn.pys]
  | j :: r, 0 => by simp [Jn.pys]
  | j :: r, i + 1 => by simp only [Jn.pys, List.getElem?_cons_succ]; exact pys_get r i
theorem oks_mem : ∀ {l : List Jn} {j : Jn}, Jn.oks l → j ∈ l → j.ok
  | a :: r, j, h, m => by
    simp only [Jn.oks] at h
    rcases List.mem_cons.mp m with rfl | m
    · exact h.1
    · exact oks_mem h.2 m
theorem cnts_mem : ∀ {l : List Jn} {j : Jn}, j ∈ l → j.cnt ≤ Jn.cnts l
  | a :: r, j, m => by
    simp only [Jn.cnts]
    rcases List.mem_cons.mp m with rfl | m
    · omega
    · have := cnts_mem m; omega
theorem Rps.part {K : PySem.W.Frag} {H : Hp} {pv : List V} {parts : List Jn} {i : Nat} {x : V} (h : Rps K H pv (Jn.pys parts)) (e : pv[i]? = some x) : ∃ j, parts[i]? = some j ∧ Rp K H x j.py := by
  obtain ⟨d, e1, r⟩ := h.getV e
  rw [pys_get] at e1
  cases e2 : parts[i]? with
  | none => rw [e2] at e1; cases e1
  | some j => rw [e2] at e1; cases e1; exact ⟨j, rfl, r⟩
theorem alls_append : ∀ a b : List Jn, Jn.alls (a ++ b) = Jn.alls a ++ Jn.alls b
  | [], b => by simp [Jn.alls]
  | j :: r, b => by simp only [List.cons_append, Jn.alls, alls_append r b, List.append_assoc]
mutual
theorem all_cnt : ∀ j : Jn, j.all.length = j.cnt
  | .mk op td parts => by simp only [Jn.all, Jn.cnt, List.length_cons, alls_cnt parts]; omega
theorem alls_cnt : ∀ l : List Jn, (Jn.alls l).length = Jn.cnts l
  | [] => by simp [Jn.alls, Jn.cnts]
  | j :: r => by simp only [Jn.alls, Jn.cnts, List.length_append, all_cnt j, alls_cnt r]
end
mutual
theorem all_ok : ∀ (j : Jn), j.ok → ∀ x ∈ j.all, x.ok ∧ x.cnt ≤ j.cnt
  | .mk op td parts, h => fun x hx => by
    simp only [Jn.all] at hx
    rcases List.mem_cons.mp hx with rfl | hx
    · exact ⟨h, Nat.le_refl _⟩
    · have h' := h
      simp only [Jn.ok] at h'
      have := alls_ok parts h'.2.2.2.2 x hx
      simp only [Jn.cnt]
      exact ⟨this.1, by omega⟩
theorem alls_ok : ∀ (l : List Jn), Jn.oks l → ∀ x ∈ Jn.alls l, x.ok ∧ x.cnt ≤ Jn.cnts l
  | [], _ => fun x hx => by simp [Jn.alls] at hx
  | j :: r, h => fun x hx => by
    simp only [Jn.oks] at h
    simp only [Jn.alls] at hx
    simp only [Jn.cnts]
    rcases List.mem_append.mp hx with hx | hx
    · have := all_ok j h.1 x hx
      exact ⟨this.1, by omega⟩
    · have := alls_ok r h.2 x hx
      exact ⟨this.1, by omega⟩
end
theorem take_more {α : Type} {l : List α} {i : Nat} {x : α} (h : l[i]? = some x) : l.take (i + 1) = l.take i ++ [x] := by
  rw [List.take_add_one, h] <;> rfl
theorem alls_take {l : List Jn} {i : Nat} {x : Jn} (h : l[i]? = some x) : Jn.alls (l.take (i + 1)) = Jn.alls (l.take i) ++ x.all := by
  rw [take_more h, alls_append]
  simp [Jn.alls]
theorem cnts_take : ∀ (l : List Jn) (i : Nat), Jn.cnts (l.take i) ≤ Jn.cnts l
  | [], i => by simp [Jn.cnts]
  | j :: r, 0 => by simp [Jn.cnts]
  | j :: r, i + 1 => by simp only [List.take_succ_cons, Jn.cnts]; have := cnts_take r i; omega
end Mine

/-! ### G0 -/
namespace Mine
open PySem PySem.Spec L2
def abc : Nat → Str
  | 0 => "a"
  | 1 => "b"
  | 2 => "c"
  | _ => "x"
def opsSame : List Str := ["rev", "sort", "cat"]
def opsUnit : List Str := ["sum", "top"]
def opsPair : List Str := ["add", "sub", "mul"]
/-- a program that fits, and its size; the inputs' sizes by their letters -/
inductive Gd (ks : Nat → Int) : Jn → Int → Prop
  | inp (i : Nat) (hi : i < 4) (h1 : 1 ≤ ks i) (h2 : ks i ≤ 64) : Gd ks (.mk "in" [.str (abc i), .int (ks i)] []) (ks i)
  | row (ns : List Int) (h1 : 1 ≤ ns.length) (h2 : ns.length ≤ 64) (h : ∀ n ∈ ns, 0 ≤ n ∧ n ≤ 1000002) : Gd ks (.mk "row" (ns.map PyData.int) []) ns.length
  | same {j : Jn} {s : Int} (op : Str) (h : op ∈ opsSame) (g : Gd ks j s) : Gd ks (.mk op [] [j]) s
  | unit {j : Jn} {s : Int} (op : Str) (h : op ∈ opsUnit) (g : Gd ks j s) : Gd ks (.mk op [] [j]) 1
  | hold {j : Jn} {s : Int} (n : Int) (h1 : 0 ≤ n) (h2 : n ≤ 64) (g : Gd ks j s) : Gd ks (.mk "hold" [.int n] [j]) s
  | part {j : Jn} {s : Int} (i k : Int) (h1 : 0 ≤ i) (h2 : i < k) (h3 : k ≤ s) (g : Gd ks j s) : Gd ks (.mk "part" [.int i, .int k] [j]) (k - i)
  | rep {j : Jn} {s : Int} (t : Int) (h1 : 1 ≤ t) (h2 : t ≤ 16) (h3 : s * t ≤ 64) (g : Gd ks j s) : Gd ks (.mk "rep" [.int t] [j]) (s * t)
  | pair {j l : Jn} {s : Int} (op : Str) (h : op ∈ opsPair) (g : Gd ks j s) (g2 : Gd ks l s) : Gd ks (.mk op [] [j, l]) s
  | dot {j l : Jn} {s : Int} (g : Gd ks j s) (g2 : Gd ks l s) : Gd ks (.mk "dot" [] [j, l]) 1
  | outer {j l : Jn} {s t : Int} (h : s * t ≤ 64) (g : Gd ks j s) (g2 : Gd ks l t) : Gd ks (.mk "outer" [] [j, l]) (s * t)
  | blend {j l : Jn} {s t : Int} (h : s + t - 1 ≤ 64) (g : Gd ks j s) (g2 : Gd ks l t) : Gd ks (.mk "blend" [] [j, l]) (s + t - 1)
  | cat {j l : Jn} {s t : Int} (h : s + t ≤ 64) (g : Gd ks j s) (g2 : Gd ks l t) : Gd ks (.mk "cat" [] [j, l]) (s + t)
theorem one_le_mul {s t : Int} (h1 : 1 ≤ s) (h2 : 1 ≤ t) : 1 ≤ s * t := by
  have := Int.mul_le_mul h1 h2 (by decide) (by omega)
  omega
theorem Gd.sz {ks : Nat → Int} {j : Jn} {s : Int} (g : Gd ks j s) : 1 ≤ s ∧ s ≤ 64 := by
  induction g with
  | inp i hi h1 h2 => exact ⟨h1, h2⟩
  | row ns h1 h2 h => omega
  | same op h g ih => exact ih
  | unit op h g ih => omega
  | hold n h1 h2 g ih => exact ih
  | part i k h1 h2 h3 g ih => omega
  | rep t h1 h2 h3 g ih => exact ⟨one_le_mul ih.1 h1, h3⟩
  | pair op h g g2 ih1 ih2 => exact ih1
  | dot g g2 ih1 ih2 => omega
  | outer h g g2 ih1 ih2 => exact ⟨one_le_mul ih1.1 ih2.1, h⟩
  | blend h g g2 ih1 ih2 => omega
  | cat h g g2 ih1 ih2 => omega
theorem okS_abc (i : Nat) : okS (abc i) := by
  unfold abc
  split <;> exact okS_of (by decide +kernel) (by decide +kernel)
theorem okS_mem {l : List Str} (h : (l.all fun z => decide (z.length ≤ 1000) && PyData.strOk z) = true) {z : Str} (m : z ∈ l) : okS z := by
  have := Bool.and_eq_true_iff.mp (List.all_eq_true.mp h z m)
  exact okS_of (of_decide_eq_true this.1) this.2
theorem flat_ints (ns : List Int) : ∀ d ∈ ns.map PyData.int, flatD d := fun d hd => by
  obtain ⟨n, _, rfl⟩ := List.mem_map.mp hd
  exact trivial
theorem okL {z : Str} (h : (decide (z.length ≤ 1000) && PyData.strOk z) = true) : okS z := okS_mem (l := [z]) (by simpa using h) (by simp)
theorem Gd.ok {ks : Nat → Int} {j : Jn} {s : Int} (g : Gd ks j s) : j.ok := by
  induction g with
  | inp i hi h1 h2 => simp only [Jn.ok, Jn.oks]; exact ⟨okL (by decide +kernel), by simp, fun d hd => (by
      rcases (show d = .str (abc i) ∨ d = .int (ks i) by simpa using hd) with rfl | rfl
      · exact okS_abc i
      · exact trivial), by simp, trivial⟩
  | row ns h1 h2 h => simp only [Jn.ok, Jn.oks]; exact ⟨okL (by decide +kernel), by simpa using h2, flat_ints ns, by simp, trivial⟩
  | same op h g ih => simp only [Jn.ok, Jn.oks]; exact ⟨okS_mem (l := opsSame) (by decide +kernel) h, by simp, (fun _ z => nomatch z), by simp, ih, trivial⟩
  | unit op h g ih => simp only [Jn.ok, Jn.oks]; exact ⟨okS_mem (l := opsUnit) (by decide +kernel) h, by simp, (fun _ z => nomatch z), by simp, ih, trivial⟩
  | hold n h1 h2 g ih => simp only [Jn.ok, Jn.oks]; exact ⟨okL (by decide +kernel), by simp, flat_ints [n], by simp, ih, trivial⟩
  | part i k h1 h2 h3 g ih => simp only [Jn.ok, Jn.oks]; exact ⟨okL (by decide +kernel), by simp, flat_ints [i, k], by simp, ih, trivial⟩
  | rep t h1 h2 h3 g ih => simp only [Jn.ok, Jn.oks]; exact ⟨okL (by decide +kernel), by simp, flat_ints [t], by simp, ih, trivial⟩
  | pair op h g g2 ih1 ih2 => simp only [Jn.ok, Jn.oks]; exact ⟨okS_mem (l := opsPair) (by decide +kernel) h, by simp, (fun _ z => nomatch z), by simp, ih1, ih2, trivial⟩
  | dot g g2 ih1 ih2 => simp only [Jn.ok, Jn.oks]; exact ⟨okL (by decide +kernel), by simp, (fun _ z => nomatch z), by simp, ih1, ih2, trivial⟩
  | outer h g g2 ih1 ih2 => simp only [Jn.ok, Jn.oks]; exact ⟨okL (by decide +kernel), by simp, (fun _ z => nomatch z), by simp, ih1, ih2, trivial⟩
  | blend h g g2 ih1 ih2 => simp only [Jn.ok, Jn.oks]; exact ⟨okL (by decide +kernel), by simp, (fun _ z => nomatch z), by simp, ih1, ih2, trivial⟩
  | cat h g g2 ih1 ih2 => simp only [Jn.ok, Jn.oks]; exact ⟨okL (by decide +kernel), by simp, (fun _ z => nomatch z), by simp, ih1, ih2, trivial⟩
/-- at v: a program that fits, of c joints, beside its size -/
def Tr (K : PySem.W.Frag) (ks : Nat → Int) (H : Hp) (v : V) (c : Nat) : Prop := ∃ (p : Addr) (u : V) (j : Jn) (s : Int), v = .ref p ∧ SqT K H p [u, .int s] ∧ Rp K H u j.py ∧ Gd ks j s ∧ j.cnt = c
theorem Tr.mono {K : PySem.W.Frag} {ks : Nat → Int} {H H' : Hp} {v : V} {c : Nat} (h : Tr K ks H v c) (e : Ext K H H') : Tr K ks H' v c := by
  obtain ⟨p, u, j, s, rfl, h1, h2, h3, h4⟩ := h
  exact ⟨p, u, j, s, rfl, e _ _ h1, h2.mono e _ _, h3, h4⟩
theorem cnt1 {op : Str} {td : List PyData} {j : Jn} : (Jn.mk op td [j]).cnt = 1 + j.cnt := by simp [Jn.cnt, Jn.cnts]
theorem cnt2 {op : Str} {td : List PyData} {j l : Jn} : (Jn.mk op td [j, l]).cnt = 1 + (j.cnt + l.cnt) := by simp [Jn.cnt, Jn.cnts]
theorem pys1 {j : Jn} : Jn.pys [j] = [j.py] := by simp [Jn.pys]
theorem pys2 {j l : Jn} : Jn.pys [j, l] = [j.py, l.py] := by simp [Jn.pys]
end Mine

/-! ### D1 -/
namespace Mine
open PySem PySem.Spec L2
local macro_rules | `(tactic| walk_at "st") => `(tactic| first
  | ((with_reducible apply rd_var); exact rfl)
  | (with_reducible apply rd_c)
  | (with_reducible apply rd_seq)
  | (with_reducible apply rd_asg)
  | (with_reducible apply rd_gname)
  | (with_reducible apply rd_op)
  | (with_reducible apply rd_cb)
  | (with_reducible apply rd_cons)
  | (with_reducible apply rd_nil)
  | (with_reducible apply rd_if)
  | (with_reducible apply rd_test)
  | (with_reducible apply rd_bl)
  | (with_reducible apply rd_retE)
  | (with_reducible apply rd_ret)
  | (with_reducible apply rd_call)
  | (with_reducible apply rd_tup)
  | (with_reducible apply rd_lst)
  | (with_reducible apply rd_drop)
  | (with_reducible apply rd_next)
  | (with_reducible apply rd_ife)
  | (with_reducible apply rd_gsub)
  | (with_reducible apply rd_par)
  | (with_reducible apply rd_par_end)
  | (with_reducible apply rd_un)
  | (with_reducible apply rd_and)
  | (with_reducible apply rd_or)
  | (with_reducible apply rd_not)
  | (with_reducible apply rd_andV)
  | (with_reducible apply rd_orV)
  | (with_reducible apply rd_notV)
  | (with_reducible apply rd_chain)
  | (with_reducible apply rd_tB)
  | (with_reducible apply rd_brk)
  | (with_reducible apply rd_ct)
  | (with_reducible apply u_add)
  | (with_reducible apply u_sub)
  | (with_reducible apply u_lt)
  | (with_reducible apply u_le)
  | (with_reducible apply u_gt)
  | (with_reducible apply u_ge)
  | (with_reducible apply u_eqI)
  | (with_reducible apply u_eqS)
  | (with_reducible apply u_neI)
  | (with_reducible apply u_int)
  | (with_reducible apply u_intB)
  | (with_reducible apply u_max)
  | (with_reducible apply u_min)
  | (with_reducible apply u_neg)
  | ((with_reducible apply u_mod); focus first | assumption | decide | omega)
  | ((with_reducible apply u_div); focus first | decide | omega | (constructor <;> first | assumption | omega))
  | ((with_reducible apply u_mul); focus first | exact Or.inl (by omega) | exact Or.inr (by omega) | exact Or.inl (by decide) | exact Or.inr (by decide))
  | ((with_reducible apply u_ixL); (focus (first | assumption | exact SqL.of (by assumption) | exact SqL.of upd_same)); exact rfl)
  | ((with_reducible apply u_lenL); focus (first | assumption | exact SqL.of (by assumption) | exact SqL.of upd_same))
  | ((with_reducible apply u_lenT); focus (first | assumption | exact SqT.of (by assumption) | exact SqT.of upd_same))
  | ((with_reducible apply u_setL); (focus (first | assumption | exact upd_same)); exact rfl)
  | (with_reducible apply rd_chain3)
  | (with_reducible apply rd_tru)
  | (with_reducible apply rd_truB)
  | ((with_reducible apply rd_truL); focus (first | assumption | exact SqL.of (by assumption) | exact SqL.of upd_same))
  | (with_reducible apply rd_bm)
  | (with_reducible apply rd_bm0)
  | ((with_reducible apply rd_tyL); focus (first | exact SqL.of (by assumption) | exact SqL.of upd_same))
  | (with_reducible apply u_min3)
  | (with_reducible apply rd_rev)
  | (with_reducible apply rd_iList)
  | (with_reducible apply rd_iTup)
  | (with_reducible apply rd_for)
  | (with_reducible apply rd_rng1)
  | (with_reducible apply rd_rng2)
  | ((with_reducible apply rd_rng1e); (focus omega); (focus omega))
  | ((with_reducible apply rd_rng2e); (focus omega))
  | (with_reducible apply rd_gcons)
  | (with_reducible apply rd_gnil)
  | (with_reducible apply rd_retN)
  | (with_reducible apply g_eqI)
  | (with_reducible apply g_eqS)
  | (with_reducible apply g_neI)
  | (with_reducible apply g_neS)
  | (with_reducible apply g_neB)
  | (with_reducible apply rd_xf)
  | (with_reducible apply rd_raiseE)
  | (with_reducible apply rd_callS)
  | (with_reducible apply u_inD)
  | (with_reducible apply u_notInD)
  | (with_reducible apply u_inS)
  | (with_reducible apply u_notInS)
  | (with_reducible apply rd_iSeq)
  | ((with_reducible apply rd_seqL); (focus first | assumption | exact SqL.of (by assumption) | exact SqL.of upd_same))
  | ((with_reducible apply rd_seqT); (focus first | assumption | exact SqT.of (by assumption) | exact SqT.of upd_same))
  | (with_reducible apply rd_istr)
  | (with_reducible apply rd_istrE)
  | ((with_reducible apply u_isi); (focus (first | exact Or.inl rfl | exact Or.inr (Or.inl rfl) | exact Or.inr (Or.inr (Or.inl rfl)) | exact Or.inr (Or.inr (Or.inr rfl)))); (focus first | assumption | exact Rp.int _ | exact Rp.str _))
  | ((with_reducible apply rd_itL); (focus first | assumption | exact SqL.of (by assumption) | exact SqL.of upd_same))
  | ((with_reducible apply rd_itT); (focus first | assumption | exact SqT.of (by assumption) | exact SqT.of upd_same))
  | (with_reducible apply rd_lc)
  | (with_reducible apply rd_yes)
  | ((with_reducible apply u_pow); (focus (exact ⟨by decide, by decide, by decide⟩)))
  | (with_reducible apply u_mul; focus exact Or.inr cm)
  | (with_reducible apply rd_par3)
  | (with_reducible apply rd_par3_end)
  | ((with_reducible apply rd_aug); exact rfl)
  | (with_reducible apply rd_ipI)
  | (with_reducible apply iteT)
  | (with_reducible apply iteF))
local macro_rules | `(tactic| walk_at "go") => `(tactic| repeat (walk_at "st"))
local macro_rules | `(tactic| walk_at "sp") => `(tactic| (first | refine rd_split (fun c => ?_) (fun c => ?_) | refine rd_splitN (fun c => ?_) (fun c => ?_) | refine rd_splitB (fun c => ?_) (fun c => ?_)))
local macro_rules | `(tactic| walk_at "nx") => `(tactic| repeat (first | (with_reducible apply iteF) | (with_reducible apply iteT) | (with_reducible apply rd_next)))

section
variable {P : Program} {w : World} {K : PySem.W.Frag} {mg : Str → Option Value} {base : Heap}
abbrev s_law_take : Stmt := top 58
theorem sc_law_take : FnScope ["source", "top", "digit"] ["source", "top"] (defScope s_law_take) := ⟨rfl, rfl, rfl, by decide +kernel, rfl, by decide +kernel, by decide +kernel⟩
theorem has_take (O : OwnF K mg "_law_take" s_law_take) (B : Bl mg) : HasF P w K mg base CX0 1 "_law_take" ["source", "top"] spTake := by
  refine has0 O sc_law_take (fun _ _ _ _ _ _ us hl => match us, hl with | [_, _], _ => rfl) (fun vs H Q E h => ?_) (fun f cdv A outer s_ H vs Q E hr h => ?_)
  · obtain ⟨a, t, rfl, _⟩ := h
    rfl
  obtain ⟨a, t, rfl, ⟨b, s, hS, hb, hs, hs2⟩, ht, ht2, q⟩ := h
  refine ⟨_, (pss_cons (ps_if (pt_cmpR gtU (pe_ix (kIx K) (pv 0) pe_int (fun _ _ => rfl)) pe_int (nomark _)) (pss_cons (ps_set (i := 2) sc_law_take.nd rfl (by first | exact Or.inl rfl | exact Or.inr rfl) (pe_op modU (pe_callTy intU (by rfl) B.int (by decide +kernel) (pa_cons (pe_ix (kIx K) (pv 0) pe_int (fun _ _ => rfl)) pa_nil)) (pv 1))) (pss_cons (ps_asg (pe_op divU (pe_ix (kIx K) (pv 0) pe_int (fun _ _ => rfl)) (pv 1)) (pg_sub (pv 0) pe_int set_list)) (pss_one (ps_ret (pv 2))))) pss_nil) (pss_cons (ps_asg (pe_op modU (pe_callTy intU (by rfl) B.int (by decide +kernel) (pa_cons (pe_op (kAdd K) (pe_op (kMul K) (pe_ix (kIx K) (pv 0) pe_int (fun _ _ => rfl)) pe_int) pe_int) pa_nil)) pe_int) (pg_sub (pv 0) pe_int set_list)) (pss_one (ps_ret (pe_op modU (pe_callTy intU (by rfl) B.int (by decide +kernel) (pa_cons (pe_op divU (pe_op modU (pe_callTy intU (by rfl) B.int (by decide +kernel) (pa_cons (pe_op (kMul K) (pe_ix (kIx K) (pv 0) pe_int (fun _ _ => rfl)) (pe_ix (kIx K) (pv 0) pe_int (fun _ _ => rfl))) pa_nil)) pe_int) pe_int) pa_nil)) (pv 1)))))), ?_⟩
  refine st0 [some (.ref a), some (.int t), none] rfl ?_
  walk_at "go"
  refine rd_split (fun c => ?_) (fun c => ?_)
  · walk_at "go"
    refine q _ _ SB.upd ⟨b / t, s, upd_same, Int.ediv_nonneg hb (by omega), hs, hs2⟩ (Int.emod_nonneg _ (by omega)) (Int.emod_lt_of_pos _ ht)
  · walk_at "go"
    refine q _ _ SB.upd ⟨b, _, upd_same, hb, Int.emod_nonneg _ (by omega), Int.emod_lt_of_pos _ (by omega)⟩ (Int.emod_nonneg _ (by omega)) (Int.emod_lt_of_pos _ ht)
abbrev s_law_one : Stmt := top 59
theorem sc_law_one : FnScope ["source", "things"] ["source", "things"] (defScope s_law_one) := ⟨rfl, rfl, rfl, by decide +kernel, rfl, by decide +kernel, by decide +kernel⟩
theorem has_one (O : OwnF K mg "_law_one" s_law_one) (B : Bl mg) (h_law_take : HasF P w K mg base CX0 1 "_law_take" ["source", "top"] spTake) : HasF P w K mg base CX0 2 "_law_one" ["source", "things"] (spOne K) := by
  refine has0 O sc_law_one (fun _ _ _ _ _ _ us hl => match us, hl with | [_, _], _ => rfl) (fun vs H Q E h => ?_) (fun f cdv A outer s_ H vs Q E hr h => ?_)
  · obtain ⟨a, p, xs, rfl, _⟩ := h
    rfl
  obtain ⟨a, p, xs, rfl, hS, hX, hn, h0, h1, q⟩ := h
  refine ⟨_, (pss_one (ps_ret (pe_ix (kIx K) (pv 1) (pe_callH h_law_take (hr.mono (by first | decide | omega)) (by rfl) pass0 (pa_cons (pv 0) (pa_cons (pe_callB (kLen K) (by rfl) B.len (by decide +kernel) (pa_cons (pv 1) pa_nil)) pa_nil))) (fun _ _ => rfl)))), ?_⟩
  refine st0 [some (.ref a), some (.ref p)] rfl ?_
  walk_at "go"
  refine use_take hS (by omega) (by omega) fun H' r hs hS' hr0 hr1 => ?_
  obtain ⟨v, e, m⟩ := at_in hr0 hr1
  exact u_ixL (hs.seqL hn hX) e (q _ _ hs hS' m)
abbrev s_law_pool : Stmt := top 57
theorem sc_law_pool : FnScope ["script", "k", "cell", "big", "stirred"] ["script", "k"] (defScope s_law_pool) := ⟨rfl, rfl, rfl, by decide +kernel, rfl, by decide +kernel, by decide +kernel⟩
def spPool (K : PySem.W.Frag) : Sp := fun vs H Q _ => ∃ (a : Addr) (ns : List Int) (k : Int), vs = [.ref a, .int k] ∧ SqL K H a (ns.map V.int) ∧ 0 ≤ k ∧ k < 1000 ∧
  ∀ (H' : Hp) (p : Addr), Same H H' → H p = none → Src H' p → Q (.ref p) H'
theorem has_pool (O : OwnF K mg "_law_pool" s_law_pool) (B : Bl mg) : HasF P w K mg base CX0 1 "_law_pool" ["script", "k"] (spPool K) := by
  refine has0 O sc_law_pool (fun _ _ _ _ _ _ us hl => match us, hl with | [_, _], _ => rfl) (fun vs H Q E h => ?_) (fun f cdv A outer s_ H vs Q E hr h => ?_)
  · obtain ⟨a, ns, k, rfl, _⟩ := h
    rfl
  obtain ⟨a, ns, k, rfl, hL, hk0, hk1, q⟩ := h
  have hl : (ns.map V.int).length = ns.length := List.length_map _
  refine ⟨_, (pss_cons (ps_set (i := 2) sc_law_pool.nd rfl (by first | exact Or.inl rfl | exact Or.inr rfl) pe_int) (pss_cons (ps_if (pt_cmpR ltU (pv 1) (pe_callB (kLen K) (by rfl) B.len (by decide +kernel) (pa_cons (pv 0) pa_nil)) (nomark _)) (pss_one (ps_set (i := 2) sc_law_pool.nd rfl (by first | exact Or.inl rfl | exact Or.inr rfl) (pe_ix (kIx K) (pv 0) (pv 1) (fun _ _ => rfl)))) (pss_one (ps_if (pt_truthK K (pv 0) (by intro _; rfl)) (pss_one (ps_set (i := 2) sc_law_pool.nd rfl (by first | exact Or.inl rfl | exact Or.inr rfl) (pe_ix (kIx K) (pv 0) pe_int (fun _ _ => rfl)))) pss_nil))) (pss_cons (ps_set (i := 3) sc_law_pool.nd rfl (by first | exact Or.inl rfl | exact Or.inr rfl) (pe_callB (max2U rfl) (by rfl) B.max (by decide +kernel) (pa_cons (pe_callTy intU (by rfl) B.int (by decide +kernel) (pa_cons (pv 2) pa_nil)) (pa_cons (pe_callTy intU (by rfl) B.int (by decide +kernel) (pa_cons (pe_op subU (pe_un un_neg pe_int) (pv 2)) pa_nil)) pa_nil)))) (pss_cons (ps_set (i := 4) sc_law_pool.nd rfl (by first | exact Or.inl rfl | exact Or.inr rfl) (pe_op modU (pe_callTy intU (by rfl) B.int (by decide +kernel) (pa_cons (pe_op (kMul K) (pe_op (kAdd K) (pe_op (kAdd K) (pe_op (kAdd K) (pe_op modU (pe_callTy intU (by rfl) B.int (by decide +kernel) (pa_cons (pv 3) pa_nil)) pe_int) (pe_op (kMul K) (pe_op (kMul K) pe_int (pv 1)) (pv 1))) (pe_op (kMul K) pe_int (pv 1))) pe_int) pe_int) pa_nil)) pe_int)) (pss_one (ps_ret (pe_lst (pa_cons (pe_op (kMul K) (pv 3) (pe_callTy intU (by rfl) B.int (by decide +kernel) (pa_cons (pe_cmpR geU (pv 3) (pe_op powU pe_int pe_int) (nomark _)) pa_nil))) (pa_cons (pv 4) pa_nil))))))))), ?_⟩
  refine st0 [some (.ref a), some (.int k), none, none, none] rfl ?_
  walk_at "go"
  rw [hl]
  refine rd_split (fun c => ?_) (fun c => ?_)
  rotate_left
  walk_at "go"
  refine rd_splitB (fun c2 => ?_) (fun c2 => ?_)
  rotate_left 2
  · obtain ⟨n, e⟩ := at_ints (ns := ns) hk0 c
    walk_at "go"
    refine u_ixL hL e ?_
    walk_at "go"
    refine ⟨lk rfl, fun p hp => ?_⟩
    refine q _ p (same_new hp _) hp ⟨_, _, upd_same, ?_, Int.emod_nonneg _ (by omega), Int.emod_lt_of_pos _ (by omega)⟩
    exact Int.mul_nonneg (by split <;> omega) (by split <;> omega)
  · have c3 := isE c2
    obtain ⟨n, e⟩ := at_ints (ns := ns) (i := 0) (by omega) (by omega)
    walk_at "go"
    refine u_ixL hL e ?_
    walk_at "go"
    refine ⟨lk rfl, fun p hp => ?_⟩
    refine q _ p (same_new hp _) hp ⟨_, _, upd_same, ?_, Int.emod_nonneg _ (by omega), Int.emod_lt_of_pos _ (by omega)⟩
    exact Int.mul_nonneg (by split <;> omega) (by split <;> omega)
  · walk_at "go"
    refine ⟨lk rfl, fun p hp => ?_⟩
    refine q _ p (same_new hp _) hp ⟨_, _, upd_same, ?_, Int.emod_nonneg _ (by omega), Int.emod_lt_of_pos _ (by omega)⟩
    exact Int.mul_nonneg (by split <;> omega) (by split <;> omega)
end
end Mine

/-! ### P1 -/
namespace Mine
open PySem PySem.Spec L2
local macro_rules | `(tactic| walk_at "st") => `(tactic| first
  | ((with_reducible apply rd_var); exact rfl)
  | (with_reducible apply rd_c)
  | (with_reducible apply rd_seq)
  | (with_reducible apply rd_asg)
  | (with_reducible apply rd_gname)
  | (with_reducible apply rd_op)
  | (with_reducible apply rd_cb)
  | (with_reducible apply rd_cons)
  | (with_reducible apply rd_nil)
  | (with_reducible apply rd_if)
  | (with_reducible apply rd_test)
  | (with_reducible apply rd_bl)
  | (with_reducible apply rd_retE)
  | (with_reducible apply rd_ret)
  | (with_reducible apply rd_call)
  | (with_reducible apply rd_tup)
  | (with_reducible apply rd_lst)
  | (with_reducible apply rd_drop)
  | (with_reducible apply rd_next)
  | (with_reducible apply rd_ife)
  | (with_reducible apply rd_gsub)
  | (with_reducible apply rd_par)
  | (with_reducible apply rd_par_end)
  | (with_reducible apply rd_un)
  | (with_reducible apply rd_and)
  | (with_reducible apply rd_or)
  | (with_reducible apply rd_not)
  | (with_reducible apply rd_andV)
  | (with_reducible apply rd_orV)
  | (with_reducible apply rd_notV)
  | (with_reducible apply rd_chain)
  | (with_reducible apply rd_tB)
  | (with_reducible apply rd_brk)
  | (with_reducible apply rd_ct)
  | (with_reducible apply u_add)
  | (with_reducible apply u_sub)
  | (with_reducible apply u_lt)
  | (with_reducible apply u_le)
  | (with_reducible apply u_gt)
  | (with_reducible apply u_ge)
  | (with_reducible apply u_eqI)
  | (with_reducible apply u_eqS)
  | (with_reducible apply u_neI)
  | (with_reducible apply u_int)
  | (with_reducible apply u_intB)
  | (with_reducible apply u_max)
  | (with_reducible apply u_min)
  | (with_reducible apply u_neg)
  | ((with_reducible apply u_mod); focus first | assumption | decide | omega)
  | ((with_reducible apply u_div); focus first | decide | omega | (constructor <;> first | assumption | omega))
  | ((with_reducible apply u_mul); focus first | exact Or.inl (by omega) | exact Or.inr (by omega) | exact Or.inl (by decide) | exact Or.inr (by decide))
  | ((with_reducible apply u_ixL); (focus (first | assumption | exact SqL.of (by assumption) | exact SqL.of upd_same)); exact rfl)
  | ((with_reducible apply u_lenL); focus (first | assumption | exact SqL.of (by assumption) | exact SqL.of upd_same))
  | ((with_reducible apply u_lenT); focus (first | assumption | exact SqT.of (by assumption) | exact SqT.of upd_same))
  | ((with_reducible apply u_setL); (focus (first | assumption | exact upd_same)); exact rfl)
  | (with_reducible apply rd_chain3)
  | (with_reducible apply rd_tru)
  | (with_reducible apply rd_truB)
  | ((with_reducible apply rd_truL); focus (first | assumption | exact SqL.of (by assumption) | exact SqL.of upd_same))
  | (with_reducible apply rd_bm)
  | (with_reducible apply rd_bm0)
  | ((with_reducible apply rd_tyL); focus (first | exact SqL.of (by assumption) | exact SqL.of upd_same))
  | (with_reducible apply u_min3)
  | (with_reducible apply rd_rev)
  | (with_reducible apply rd_iList)
  | (with_reducible apply rd_iTup)
  | (with_reducible apply rd_for)
  | (with_reducible apply rd_rng1)
  | (with_reducible apply rd_rng2)
  | ((with_reducible apply rd_rng1e); (focus omega); (focus omega))
  | ((with_reducible apply rd_rng2e); (focus omega))
  | (with_reducible apply rd_gcons)
  | (with_reducible apply rd_gnil)
  | (with_reducible apply rd_retN)
  | (with_reducible apply g_eqI)
  | (with_reducible apply g_eqS)
  | (with_reducible apply g_neI)
  | (with_reducible apply g_neS)
  | (with_reducible apply g_neB)
  | (with_reducible apply rd_xf)
  | (with_reducible apply rd_raiseE)
  | (with_reducible apply rd_callS)
  | (with_reducible apply u_inD)
  | (with_reducible apply u_notInD)
  | (with_reducible apply u_inS)
  | (with_reducible apply u_notInS)
  | (with_reducible apply rd_iSeq)
  | ((with_reducible apply rd_seqL); (focus first | assumption | exact SqL.of (by assumption) | exact SqL.of upd_same))
  | ((with_reducible apply rd_seqT); (focus first | assumption | exact SqT.of (by assumption) | exact SqT.of upd_same))
  | (with_reducible apply rd_istr)
  | (with_reducible apply rd_istrE)
  | ((with_reducible apply u_isi); (focus (first | exact Or.inl rfl | exact Or.inr (Or.inl rfl) | exact Or.inr (Or.inr (Or.inl rfl)) | exact Or.inr (Or.inr (Or.inr rfl)))); (focus first | assumption | exact Rp.int _ | exact Rp.str _))
  | ((with_reducible apply rd_itL); (focus first | assumption | exact SqL.of (by assumption) | exact SqL.of upd_same))
  | ((with_reducible apply rd_itT); (focus first | assumption | exact SqT.of (by assumption) | exact SqT.of upd_same))
  | (with_reducible apply rd_lc)
  | (with_reducible apply rd_yes)
  | ((with_reducible apply u_pow); (focus (exact ⟨by decide, by decide, by decide⟩)))
  | (with_reducible apply u_mul; focus exact Or.inr cm)
  | (with_reducible apply rd_par3)
  | (with_reducible apply rd_par3_end)
  | ((with_reducible apply rd_aug); exact rfl)
  | (with_reducible apply rd_ipI)
  | (with_reducible apply iteT)
  | (with_reducible apply iteF))
local macro_rules | `(tactic| walk_at "go") => `(tactic| repeat (walk_at "st"))
local macro_rules | `(tactic| walk_at "sp") => `(tactic| (first | refine rd_split (fun c => ?_) (fun c => ?_) | refine rd_splitN (fun c => ?_) (fun c => ?_) | refine rd_splitB (fun c => ?_) (fun c => ?_)))
local macro_rules | `(tactic| walk_at "nx") => `(tactic| repeat (first | (with_reducible apply iteF) | (with_reducible apply iteT) | (with_reducible apply rd_next)))

section
variable {P : Program} {w : World} {K : PySem.W.Frag} {mg : Str → Option Value} {base : Heap}
/-- the module's constants -/
structure Cst (mg : Str → Option Value) : Prop where
  MODULUS : ∃ t, mg "MODULUS" = some (.int 1000003 t)
  LONGEST_ROW : ∃ t, mg "LONGEST_ROW" = some (.int 64 t)
  LONGEST_WORD : ∃ t, mg "LONGEST_WORD" = some (.int 8 t)
  MOST_TIMES : ∃ t, mg "MOST_TIMES" = some (.int 16 t)
  LETTERS : ∃ t, mg "LETTERS" = some (.str Letters t)
  MOST_JOINTS : ∃ t, mg "MOST_JOINTS" = some (.int 40 t)
/-- a question about data: f tells the answer -/
def spAsk (K : PySem.W.Frag) (f : PyData → Bool) : Sp := fun vs H Q _ => ∃ (v : V) (d : PyData), vs = [v] ∧ Rp K H v d ∧ dat d ∧ ∀ H', Same H H' → Q (.bl (f d)) H'
theorem use_ask {K : PySem.W.Frag} {f : PyData → Bool} {v : V} {d : PyData} {H : Hp} {Q : VK} {E : XK} (r : Rp K H v d) (hd : dat d) (q : ∀ H', Same H H' → Q (.bl (f d)) H') : spAsk K f [v] H Q E := ⟨v, d, rfl, r, hd, q⟩
/-- .. about a row of data -/
def spAsks (K : PySem.W.Frag) (f : List PyData → Bool) : Sp := fun vs H Q _ => ∃ (a : Addr) (xs : List V) (ds : List PyData), vs = [.ref a] ∧ SqT K H a xs ∧ Rps K H xs ds ∧ ds.length ≤ 1000 ∧ dats ds ∧ ∀ H', Same H H' → Q (.bl (f ds)) H'
theorem use_asks {K : PySem.W.Frag} {f : List PyData → Bool} {a : Addr} {xs : List V} {ds : List PyData} {H : Hp} {Q : VK} {E : XK} (s : SqT K H a xs) (r : Rps K H xs ds) (l : ds.length ≤ 1000) (hd : dats ds) (q : ∀ H', Same H H' → Q (.bl (f ds)) H') : spAsks K f [.ref a] H Q E := ⟨a, xs, ds, rfl, s, r, l, hd, q⟩
def spBtw (K : PySem.W.Frag) : Sp := fun vs H Q _ => ∃ (v : V) (d : PyData) (lo hi : Int), vs = [v, .int lo, .int hi] ∧ Rp K H v d ∧ Q (.bl (isBtw d lo hi)) H
theorem use_btw {K : PySem.W.Frag} {v : V} {d : PyData} {lo hi : Int} {H : Hp} {Q : VK} {E : XK} (r : Rp K H v d) (q : Q (.bl (isBtw d lo hi)) H) : spBtw K [v, .int lo, .int hi] H Q E := ⟨v, d, lo, hi, rfl, r, q⟩
def spNum (K : PySem.W.Frag) : Sp := fun vs H Q _ => ∃ (v : V) (d : PyData), vs = [v] ∧ Rp K H v d ∧ Q (.bl (isNum d)) H
theorem use_num {K : PySem.W.Frag} {v : V} {d : PyData} {H : Hp} {Q : VK} {E : XK} (r : Rp K H v d) (q : Q (.bl (isNum d)) H) : spNum K [v] H Q E := ⟨v, d, rfl, r, q⟩
abbrev s_is_number : Stmt := top 18
theorem sc_is_number : FnScope ["thing"] ["thing"] (defScope s_is_number) := ⟨rfl, rfl, rfl, by decide +kernel, rfl, by decide +kernel, by decide +kernel⟩
theorem has_is_number (O : OwnF K mg "is_number" s_is_number) (B : Bl mg) : HasF P w K mg base CX0 1 "is_number" ["thing"] (spNum K) := by
  refine has0 O sc_is_number (fun _ _ _ _ _ _ us hl => match us, hl with | [_], _ => rfl) (fun vs H Q E h => ?_) (fun f cdv A outer s_ H vs Q E hr h => ?_)
  · obtain ⟨v, d, rfl, _⟩ := h
    rfl
  obtain ⟨v, d, rfl, r, q⟩ := h
  refine ⟨_, (pss_one (ps_ret (pe_and (pe_callB (kIsi K) (by rfl) B.isinstance (by decide +kernel) (pa_cons (pv 0) (pa_cons (pe_bltn (v := .ty "int") (by rfl) B.int (by decide +kernel) rfl) pa_nil))) (pe_one (pe_not (pe_callB (kIsi K) (by rfl) B.isinstance (by decide +kernel) (pa_cons (pv 0) (pa_cons (pe_bltn (v := .ty "bool") (by rfl) B.bool (by decide +kernel) rfl) pa_nil)))))))), ?_⟩
  refine st0 [some v] rfl ?_
  walk_at "go"
  refine rd_splitB (fun c => ?_) (fun c => ?_)
  · walk_at "go"
    have e : (!isT "bool" d) = isNum d := by cases d <;> simp_all [isT, isNum]
    rw [e]; exact q
  · have e : false = isNum d := by cases d <;> simp_all [isT, isNum]
    rw [e]; exact q
abbrev s_is_between : Stmt := top 19
theorem sc_is_between : FnScope ["thing", "least", "most"] ["thing", "least", "most"] (defScope s_is_between) := ⟨rfl, rfl, rfl, by decide +kernel, rfl, by decide +kernel, by decide +kernel⟩
theorem has_is_between (O : OwnF K mg "is_between" s_is_between) (h_is_number : HasF P w K mg base CX0 1 "is_number" ["thing"] (spNum K)) : HasF P w K mg base CX0 2 "is_between" ["thing", "least", "most"] (spBtw K) := by
  refine has0 O sc_is_between (fun _ _ _ _ _ _ us hl => match us, hl with | [_, _, _], _ => rfl) (fun vs H Q E h => ?_) (fun f cdv A outer s_ H vs Q E hr h => ?_)
  · obtain ⟨v, d, lo, hi, rfl, _⟩ := h
    rfl
  obtain ⟨v, d, lo, hi, rfl, r, q⟩ := h
  refine ⟨_, (pss_one (ps_ret (pe_and (pe_callH h_is_number (hr.mono (by first | decide | omega)) (by rfl) pass0 (pa_cons (pv 0) pa_nil)) (pe_one (pe_chain leU leU (pv 1) (pv 0) (pv 2)))))), ?_⟩
  refine st0 [some v, some (.int lo), some (.int hi)] rfl ?_
  walk_at "go"
  refine use_num r ?_
  walk_at "go"
  cases r with
  | int i =>
    refine iteT ?_
    walk_at "go"
    refine rd_split (fun c => ?_) (fun c => ?_)
    · walk_at "go"
      have e : decide (i ≤ hi) = isBtw (.int i) lo hi := by simp [isBtw, c]
      rw [e]; exact q
    · have e : false = isBtw (.int i) lo hi := by simp [isBtw, c]
      rw [e]; exact q
  | non => exact iteF q
  | bl b => exact iteF q
  | str z => exact iteF q
  | tup _ _ => exact iteF q
abbrev s_are_row_numbers : Stmt := top 20
theorem sc_are_row_numbers : FnScope ["things", "thing"] ["things"] (defScope s_are_row_numbers) := ⟨rfl, rfl, rfl, by decide +kernel, rfl, by decide +kernel, by decide +kernel⟩
theorem has_are_row_numbers (O : OwnF K mg "are_row_numbers" s_are_row_numbers) (B : Bl mg) (C : Cst mg) (h_is_between : HasF P w K mg base CX0 2 "is_between" ["thing", "least", "most"] (spBtw K)) : HasF P w K mg base CX0 3 "are_row_numbers" ["things"] (spAsks K rowNums) := by
  refine has0 O sc_are_row_numbers (fun _ _ _ _ _ _ us hl => match us, hl with | [_], _ => rfl) (fun vs H Q E h => ?_) (fun f cdv A outer s_ H vs Q E hr h => ?_)
  · obtain ⟨a, xs, ds, rfl, _⟩ := h
    rfl
  obtain ⟨a, xs, ds, rfl, hs, hR, hl, hd, q⟩ := h
  refine ⟨_, (pss_one (ps_ret (pe_callB (kAll K rfl) (by rfl) B.all (by decide +kernel) (pa_cons (pe_lc (own := [("thing", 1)]) (g := gName 1) (tt := tYes) rfl sc_are_row_numbers.nd (pi_tupK K (pv 0)) (blkOk_by (own := [("thing", 1)]) (N := ["things", "thing"]) (sc := defScope s_are_row_numbers) (by decide +kernel)) (fun _ _ _ _ _ => (pg_name (i := 1) sc_are_row_numbers.nd rfl (by first | exact Or.inl rfl | exact Or.inr rfl))) (fun _ _ _ _ _ => pts_nil) (fun _ _ _ _ _ => (pe_callH h_is_between (hr.mono (by first | decide | omega)) (by rfl) pass0 (pa_cons (pv 1) (pa_cons pe_int (pa_cons (pe_op subU (pe_globI C.MODULUS (by rfl)) pe_int) pa_nil)))))) pa_nil)))), ?_⟩
  refine st0 [some (.ref a), none] rfl ?_
  walk_at "go"
  intro D hD
  refine lc_tup (K := K) (a := a) (xs := xs) (fun i H' => ∃ bs : List Bool, H' D = some (.lst (bs.map V.bl)) ∧ bs = (ds.take i).map (fun d => isBtw d 0 1000002) ∧ Same H H') ⟨[], upd_same, rfl, Same.upd_new (Same.refl H) hD⟩ ?_ ?_ ?_
  · rintro i H' hi ⟨bs, h1, h2, h3⟩
    exact Ext.of_same h3 a xs hs
  · rintro i x H' hx ⟨bs, h1, h2, h3⟩
    obtain ⟨d, e1, e2⟩ := hR.getV hx
    walk_at "go"
    refine ⟨rfl, ?_⟩
    walk_at "go"
    refine use_btw (e2.mono (Ext.of_same h3) d x) ?_
    refine ⟨bs.map V.bl, h1, ?_, bs ++ [isBtw d 0 (1000003 - 1)], ?_, ?_, Same.upd_new h3 hD⟩
    · rw [List.length_map, h2, List.length_map, List.length_take]
      exact ls (by omega)
    · rw [upd_same, List.map_append] <;> rfl
    · rw [List.take_add_one, e1, List.map_append, h2] <;> rfl
  · rintro H' ⟨bs, h1, h2, h3⟩
    walk_at "go"
    refine u_all (SqL.of h1) ?_
    have e : bs.all id = rowNums ds := by
      rw [h2, hR.length, List.take_length, all_map] <;> rfl
    rw [e]
    exact q _ h3
end
end Mine

/-! ### P2 -/
namespace Mine
open PySem PySem.Spec L2
local macro_rules | `(tactic| walk_at "st") => `(tactic| first
  | ((with_reducible apply rd_var); exact rfl)
  | (with_reducible apply rd_c)
  | (with_reducible apply rd_seq)
  | (with_reducible apply rd_asg)
  | (with_reducible apply rd_gname)
  | (with_reducible apply rd_op)
  | (with_reducible apply rd_cb)
  | (with_reducible apply rd_cons)
  | (with_reducible apply rd_nil)
  | (with_reducible apply rd_if)
  | (with_reducible apply rd_test)
  | (with_reducible apply rd_bl)
  | (with_reducible apply rd_retE)
  | (with_reducible apply rd_ret)
  | (with_reducible apply rd_call)
  | (with_reducible apply rd_tup)
  | (with_reducible apply rd_lst)
  | (with_reducible apply rd_drop)
  | (with_reducible apply rd_next)
  | (with_reducible apply rd_ife)
  | (with_reducible apply rd_gsub)
  | (with_reducible apply rd_par)
  | (with_reducible apply rd_par_end)
  | (with_reducible apply rd_un)
  | (with_reducible apply rd_and)
  | (with_reducible apply rd_or)
  | (with_reducible apply rd_not)
  | (with_reducible apply rd_andV)
  | (with_reducible apply rd_orV)
  | (with_reducible apply rd_notV)
  | (with_reducible apply rd_chain)
  | (with_reducible apply rd_tB)
  | (with_reducible apply rd_brk)
  | (with_reducible apply rd_ct)
  | (with_reducible apply u_add)
  | (with_reducible apply u_sub)
  | (with_reducible apply u_lt)
  | (with_reducible apply u_le)
  | (with_reducible apply u_gt)
  | (with_reducible apply u_ge)
  | (with_reducible apply u_eqI)
  | (with_reducible apply u_eqS)
  | (with_reducible apply u_neI)
  | (with_reducible apply u_int)
  | (with_reducible apply u_intB)
  | (with_reducible apply u_max)
  | (with_reducible apply u_min)
  | (with_reducible apply u_neg)
  | ((with_reducible apply u_mod); focus first | assumption | decide | omega)
  | ((with_reducible apply u_div); focus first | decide | omega | (constructor <;> first | assumption | omega))
  | ((with_reducible apply u_mul); focus first | exact Or.inl (by omega) | exact Or.inr (by omega) | exact Or.inl (by decide) | exact Or.inr (by decide))
  | ((with_reducible apply u_ixL); (focus (first | assumption | exact SqL.of (by assumption) | exact SqL.of upd_same)); exact rfl)
  | ((with_reducible apply u_lenL); focus (first | assumption | exact SqL.of (by assumption) | exact SqL.of upd_same))
  | ((with_reducible apply u_lenT); focus (first | assumption | exact SqT.of (by assumption) | exact SqT.of upd_same))
  | ((with_reducible apply u_setL); (focus (first | assumption | exact upd_same)); exact rfl)
  | (with_reducible apply rd_chain3)
  | (with_reducible apply rd_tru)
  | (with_reducible apply rd_truB)
  | ((with_reducible apply rd_truL); focus (first | assumption | exact SqL.of (by assumption) | exact SqL.of upd_same))
  | (with_reducible apply rd_bm)
  | (with_reducible apply rd_bm0)
  | ((with_reducible apply rd_tyL); focus (first | exact SqL.of (by assumption) | exact SqL.of upd_same))
  | (with_reducible apply u_min3)
  | (with_reducible apply rd_rev)
  | (with_reducible apply rd_iList)
  | (with_reducible apply rd_iTup)
  | (with_reducible apply rd_for)
  | (with_reducible apply rd_rng1)
  | (with_reducible apply rd_rng2)
  | ((with_reducible apply rd_rng1e); (focus omega); (focus omega))
  | ((with_reducible apply rd_rng2e); (focus omega))
  | (with_reducible apply rd_gcons)
  | (with_reducible apply rd_gnil)
  | (with_reducible apply rd_retN)
  | (with_reducible apply g_eqI)
  | (with_reducible apply g_eqS)
  | (with_reducible apply g_neI)
  | (with_reducible apply g_neS)
  | (with_reducible apply g_neB)
  | (with_reducible apply rd_xf)
  | (with_reducible apply rd_raiseE)
  | (with_reducible apply rd_callS)
  | (with_reducible apply u_inD)
  | (with_reducible apply u_notInD)
  | (with_reducible apply u_inS)
  | (with_reducible apply u_notInS)
  | (with_reducible apply rd_iSeq)
  | ((with_reducible apply rd_seqL); (focus first | assumption | exact SqL.of (by assumption) | exact SqL.of upd_same))
  | ((with_reducible apply rd_seqT); (focus first | assumption | exact SqT.of (by assumption) | exact SqT.of upd_same))
  | (with_reducible apply rd_istr)
  | (with_reducible apply rd_istrE)
  | ((with_reducible apply u_isi); (focus (first | exact Or.inl rfl | exact Or.inr (Or.inl rfl) | exact Or.inr (Or.inr (Or.inl rfl)) | exact Or.inr (Or.inr (Or.inr rfl)))); (focus first | assumption | exact Rp.int _ | exact Rp.str _))
  | ((with_reducible apply rd_itL); (focus first | assumption | exact SqL.of (by assumption) | exact SqL.of upd_same))
  | ((with_reducible apply rd_itT); (focus first | assumption | exact SqT.of (by assumption) | exact SqT.of upd_same))
  | (with_reducible apply rd_lc)
  | (with_reducible apply rd_yes)
  | ((with_reducible apply u_pow); (focus (exact ⟨by decide, by decide, by decide⟩)))
  | (with_reducible apply u_mul; focus exact Or.inr cm)
  | (with_reducible apply rd_par3)
  | (with_reducible apply rd_par3_end)
  | ((with_reducible apply rd_aug); exact rfl)
  | (with_reducible apply rd_ipI)
  | (with_reducible apply iteT)
  | (with_reducible apply iteF))
local macro_rules | `(tactic| walk_at "go") => `(tactic| repeat (walk_at "st"))
local macro_rules | `(tactic| walk_at "sp") => `(tactic| (first | refine rd_split (fun c => ?_) (fun c => ?_) | refine rd_splitN (fun c => ?_) (fun c => ?_) | refine rd_splitB (fun c => ?_) (fun c => ?_)))
local macro_rules | `(tactic| walk_at "nx") => `(tactic| repeat (first | (with_reducible apply iteF) | (with_reducible apply iteT) | (with_reducible apply rd_next)))

section
variable {P : Program} {w : World} {K : PySem.W.Frag} {mg : Str → Option Value} {base : Heap}
theorem z_len {z : Str} (h : z.length ≤ 1000) : z.length ≤ sizeLine := ll (by omega)
abbrev s_is_word : Stmt := top 21
theorem sc_is_word : FnScope ["thing", "sign"] ["thing"] (defScope s_is_word) := ⟨rfl, rfl, rfl, by decide +kernel, rfl, by decide +kernel, by decide +kernel⟩
theorem has_is_word (O : OwnF K mg "is_word" s_is_word) (B : Bl mg) (C : Cst mg) : HasF P w K mg base CX0 1 "is_word" ["thing"] (spAsk K isWord) := by
  refine has0 O sc_is_word (fun _ _ _ _ _ _ us hl => match us, hl with | [_], _ => rfl) (fun vs H Q E h => ?_) (fun f cdv A outer s_ H vs Q E hr h => ?_)
  · obtain ⟨v, d, rfl, _⟩ := h
    rfl
  obtain ⟨v, d, rfl, r, hd, q⟩ := h
  refine ⟨_, (pss_cons (ps_if (PW.pt (pw_or (pt_not (pt_val (pe_callB (kIsi K) (by rfl) B.isinstance (by decide +kernel) (pa_cons (pv 0) (pa_cons (pe_bltn (v := .ty "str") (by rfl) B.str (by decide +kernel) rfl) pa_nil))))) (pw_or1 (pt_not (pt_chain leU leU pe_int (pe_callB (kLen K) (by rfl) B.len (by decide +kernel) (pa_cons (pv 0) pa_nil)) (pe_globI C.LONGEST_WORD (by rfl))))))) (pss_one (ps_ret pe_bl)) pss_nil) (pss_one (ps_ret (pe_callB (kAll K rfl) (by rfl) B.all (by decide +kernel) (pa_cons (pe_lc (own := [("sign", 1)]) (g := gName 1) (tt := tYes) rfl sc_is_word.nd (pi_str (pv 0)) (blkOk_by (own := [("sign", 1)]) (N := ["thing", "sign"]) (sc := defScope s_is_word) (by decide +kernel)) (fun _ _ _ _ _ => (pg_name (i := 1) sc_is_word.nd rfl (by first | exact Or.inl rfl | exact Or.inr rfl))) (fun _ _ _ _ _ => pts_nil) (fun _ _ _ _ _ => (pe_cmpR (kIn K) (pv 1) (pe_globS C.LETTERS (by rfl)) (by rfl)))) pa_nil))))), ?_⟩
  refine st0 [some v, none] rfl ?_
  walk_at "go"
  cases r with
  | str z =>
    refine iteF ?_
    have hz : z.length ≤ 1000 := hd.1
    walk_at "go"
    refine u_lenS (z_len hz) ?_
    walk_at "go"
    refine rd_split (fun c1 => ?_) (fun c1 => ?_)
    rotate_left
    · walk_at "go"
      refine iteT ?_
      walk_at "go"
      have e : false = isWord (.str z) := by simp only [isWord, decide_eq_false c1, Bool.false_and]
      rw [e]; exact q _ (Same.refl _)
    walk_at "go"
    refine rd_splitN (fun c2 => ?_) (fun c2 => ?_)
    · walk_at "go"
      have e : false = isWord (.str z) := by simp only [isWord, decide_eq_false c2, Bool.and_false, Bool.false_and]
      rw [e]; exact q _ (Same.refl _)
    walk_at "go"
    intro D hD
    refine lcS (fun i H' => H' D = some (.lst (((z.cps.toList.take i).map fun c => decide (c ∈ Letters.cps.toList)).map V.bl)) ∧ Same H H') ⟨upd_same, Same.upd_new (Same.refl H) hD⟩ ?_ ?_
    · rintro i c H' hc ⟨h1, h3⟩
      walk_at "go"
      refine ⟨rfl, ?_⟩
      walk_at "go"
      refine ⟨_, h1, ?_, ?_, Same.upd_new h3 hD⟩
      · rw [List.length_map, List.length_map, List.length_take]
        have : z.cps.toList.length = z.length := (len_list z).symm
        exact ls (by omega)
      · have e1 : z.cps.toList[i]? = some c := by rw [Array.getElem?_toList]; exact hc
        rw [upd_same, List.take_add_one, e1, List.map_append, List.map_append] <;> rfl
    · rintro H' ⟨h1, h3⟩
      walk_at "go"
      refine u_all (SqL.of h1) ?_
      have e : ((z.cps.toList.take z.cps.size).map fun c => decide (c ∈ Letters.cps.toList)).all id = isWord (.str z) := by
        have e2 : z.cps.toList.take z.cps.size = z.cps.toList := by
          rw [List.take_of_length_le (by simp)]
        rw [e2, all_map]
        simp only [isWord, lowAll, decide_eq_true c1, decide_eq_true c2, Bool.true_and]
      rw [e]
      exact q _ h3
  | non => refine iteT ?_; walk_at "go"; exact q _ (Same.refl _)
  | bl b => refine iteT ?_; walk_at "go"; exact q _ (Same.refl _)
  | int i => refine iteT ?_; walk_at "go"; exact q _ (Same.refl _)
  | tup _ _ => refine iteT ?_; walk_at "go"; exact q _ (Same.refl _)
abbrev s_tells_row : Stmt := top 22
theorem sc_tells_row : FnScope ["told"] ["told"] (defScope s_tells_row) := ⟨rfl, rfl, rfl, by decide +kernel, rfl, by decide +kernel, by decide +kernel⟩
theorem has_tells_row (O : OwnF K mg "tells_row" s_tells_row) (B : Bl mg) (C : Cst mg) (h_are_row_numbers : HasF P w K mg base CX0 3 "are_row_numbers" ["things"] (spAsks K rowNums)) : HasF P w K mg base CX0 4 "tells_row" ["told"] (spAsks K tellsRow) := by
  refine has0 O sc_tells_row (fun _ _ _ _ _ _ us hl => match us, hl with | [_], _ => rfl) (fun vs H Q E h => ?_) (fun f cdv A outer s_ H vs Q E hr h => ?_)
  · obtain ⟨a, xs, ds, rfl, _⟩ := h
    rfl
  obtain ⟨a, xs, ds, rfl, hs, hR, hl, hd, q⟩ := h
  have el := hR.length
  refine ⟨_, (pss_one (ps_ret (pe_and (pe_chain leU leU pe_int (pe_callB (kLen K) (by rfl) B.len (by decide +kernel) (pa_cons (pv 0) pa_nil)) (pe_globI C.LONGEST_ROW (by rfl))) (pe_one (pe_callH h_are_row_numbers (hr.mono (by first | decide | omega)) (by rfl) pass0 (pa_cons (pv 0) pa_nil)))))), ?_⟩
  refine st0 [some (.ref a)] rfl ?_
  walk_at "go"
  refine rd_split (fun c1 => ?_) (fun c1 => ?_)
  · walk_at "go"
    refine rd_split (fun c2 => ?_) (fun c2 => ?_)
    · walk_at "go"
      refine use_asks hs hR hl hd fun H' s' => ?_
      have e : rowNums ds = tellsRow ds := by
        rw [el] at c1 c2
        simp only [tellsRow, decide_eq_true c1, decide_eq_true c2, Bool.true_and]
      rw [e]
      exact q _ s'
    · rw [el] at c2
      have e : false = tellsRow ds := by simp only [tellsRow, decide_eq_false c2, Bool.and_false, Bool.false_and]
      rw [e]; exact q _ (Same.refl _)
  · rw [el] at c1
    walk_at "go"
    have e : false = tellsRow ds := by simp only [tellsRow, decide_eq_false c1, Bool.false_and]
    rw [e]; exact q _ (Same.refl _)
abbrev s_tells_input : Stmt := top 23
theorem sc_tells_input : FnScope ["told"] ["told"] (defScope s_tells_input) := ⟨rfl, rfl, rfl, by decide +kernel, rfl, by decide +kernel, by decide +kernel⟩
theorem has_tells_input (O : OwnF K mg "tells_input" s_tells_input) (B : Bl mg) (C : Cst mg) (h_is_word : HasF P w K mg base CX0 1 "is_word" ["thing"] (spAsk K isWord)) (h_is_between : HasF P w K mg base CX0 2 "is_between" ["thing", "least", "most"] (spBtw K)) : HasF P w K mg base CX0 4 "tells_input" ["told"] (spAsks K tellsInput) := by
  refine has0 O sc_tells_input (fun _ _ _ _ _ _ us hl => match us, hl with | [_], _ => rfl) (fun vs H Q E h => ?_) (fun f cdv A outer s_ H vs Q E hr h => ?_)
  · obtain ⟨a, xs, ds, rfl, _⟩ := h
    rfl
  obtain ⟨a, xs, ds, rfl, hs, hR, hl, hd, q⟩ := h
  refine ⟨_, (pss_one (ps_ret (pe_and (pe_cmpR (kEqG K (hU hr)) (pe_callB (kLen K) (by rfl) B.len (by decide +kernel) (pa_cons (pv 0) pa_nil)) pe_int (nomark _)) (pe_and (pe_callH h_is_word (hr.mono (by first | decide | omega)) (by rfl) pass0 (pa_cons (pe_ix (kIx K) (pv 0) pe_int (fun _ _ => rfl)) pa_nil)) (pe_one (pe_callH h_is_between (hr.mono (by first | decide | omega)) (by rfl) pass0 (pa_cons (pe_ix (kIx K) (pv 0) pe_int (fun _ _ => rfl)) (pa_cons pe_int (pa_cons (pe_globI C.LONGEST_ROW (by rfl)) pa_nil))))))))), ?_⟩
  refine st0 [some (.ref a)] rfl ?_
  walk_at "go"
  refine rd_split (fun c => ?_) (fun c => ?_)
  · obtain ⟨x, y, d, e, rfl, rfl, r1, r2⟩ := hR.pair c
    walk_at "go"
    refine u_ixT hs rfl ?_
    walk_at "go"
    refine use_ask r1 hd.1 fun H' s' => ?_
    walk_at "go"
    refine rd_splitB (fun c1 => ?_) (fun c1 => ?_)
    · walk_at "go"
      refine u_ixT (Ext.of_same s' _ _ hs) rfl ?_
      walk_at "go"
      refine use_btw (r2.mono (Ext.of_same s') _ _) ?_
      have ee : isBtw e 1 64 = tellsInput [d, e] := by simp only [tellsInput, c1, Bool.true_and]
      rw [ee]; exact q _ s'
    · have ee : false = tellsInput [d, e] := by simp only [tellsInput, c1, Bool.false_and]
      rw [ee]; exact q _ s'
  · have ee : false = tellsInput ds := by
      rw [hR.length] at c
      match ds, c with
      | [], _ => rfl
      | [_], _ => rfl
      | [_, _], c => exact absurd rfl c
      | _ :: _ :: _ :: _, _ => rfl
    rw [ee]; exact q _ (Same.refl _)
abbrev s_tells_stretch : Stmt := top 24
theorem sc_tells_stretch : FnScope ["told"] ["told"] (defScope s_tells_stretch) := ⟨rfl, rfl, rfl, by decide +kernel, rfl, by decide +kernel, by decide +kernel⟩
theorem has_tells_stretch (O : OwnF K mg "tells_stretch" s_tells_stretch) (B : Bl mg) (C : Cst mg) (h_is_between : HasF P w K mg base CX0 2 "is_between" ["thing", "least", "most"] (spBtw K)) : HasF P w K mg base CX0 4 "tells_stretch" ["told"] (spAsks K tellsStretch) := by
  refine has0 O sc_tells_stretch (fun _ _ _ _ _ _ us hl => match us, hl with | [_], _ => rfl) (fun vs H Q E h => ?_) (fun f cdv A outer s_ H vs Q E hr h => ?_)
  · obtain ⟨a, xs, ds, rfl, _⟩ := h
    rfl
  obtain ⟨a, xs, ds, rfl, hs, hR, hl, hd, q⟩ := h
  refine ⟨_, (pss_cons (ps_if (PW.pt (pw_or (pt_cmpR (kNeG K (hU hr)) (pe_callB (kLen K) (by rfl) B.len (by decide +kernel) (pa_cons (pv 0) pa_nil)) pe_int (nomark _)) (pw_or1 (pt_not (pt_truthK K (pe_callH h_is_between (hr.mono (by first | decide | omega)) (by rfl) pass0 (pa_cons (pe_ix (kIx K) (pv 0) pe_int (fun _ _ => rfl)) (pa_cons pe_int (pa_cons (pe_globI C.LONGEST_ROW (by rfl)) pa_nil)))) (by intro _; rfl)))))) (pss_one (ps_ret pe_bl)) pss_nil) (pss_one (ps_ret (pe_callH h_is_between (hr.mono (by first | decide | omega)) (by rfl) pass0 (pa_cons (pe_ix (kIx K) (pv 0) pe_int (fun _ _ => rfl)) (pa_cons pe_int (pa_cons (pe_op subU (pe_ix (kIx K) (pv 0) pe_int (fun _ _ => rfl)) pe_int) pa_nil))))))), ?_⟩
  refine st0 [some (.ref a)] rfl ?_
  walk_at "go"
  refine rd_splitN (fun c => ?_) (fun c => ?_)
  · walk_at "go"
    have ee : false = tellsStretch ds := by
      rw [hR.length] at c
      match ds, c with
      | [], _ => rfl
      | [_], _ => rfl
      | [_, _], c => exact absurd rfl c
      | _ :: y :: _ :: _, _ => cases y <;> rfl
    rw [ee]; exact q _ (Same.refl _)
  · obtain ⟨x, y, d, e, rfl, rfl, r1, r2⟩ := hR.pair c
    walk_at "go"
    refine u_ixT hs rfl ?_
    walk_at "go"
    refine use_btw r2 ?_
    walk_at "go"
    cases r2 with
    | int j =>
      have nb : ∀ b : Bool, (b = true → Q (.bl (isBtw d 0 (j - 1))) H) → (b = false → Q (.bl false) H) → True := fun _ _ _ => trivial
      cases hb : isBtw (.int j) 0 64 with
      | true =>
        refine iteF ?_
        walk_at "go"
        refine u_ixT hs rfl ?_
        walk_at "go"
        refine u_ixT hs rfl ?_
        walk_at "go"
        refine use_btw r1 ?_
        have ee : isBtw d 0 (j - 1) = tellsStretch [d, .int j] := by simp only [tellsStretch, hb, Bool.true_and]
        rw [ee]; exact q _ (Same.refl _)
      | false =>
        refine iteT ?_
        walk_at "go"
        have ee : false = tellsStretch [d, .int j] := by simp only [tellsStretch, hb, Bool.false_and]
        rw [ee]; exact q _ (Same.refl _)
    | non => refine iteT ?_; walk_at "go"; exact q _ (Same.refl _)
    | bl b => refine iteT ?_; walk_at "go"; exact q _ (Same.refl _)
    | str i => refine iteT ?_; walk_at "go"; exact q _ (Same.refl _)
    | tup _ _ => refine iteT ?_; walk_at "go"; exact q _ (Same.refl _)
abbrev s_tells_times : Stmt := top 25
theorem sc_tells_times : FnScope ["told"] ["told"] (defScope s_tells_times) := ⟨rfl, rfl, rfl, by decide +kernel, rfl, by decide +kernel, by decide +kernel⟩
theorem has_tells_times (O : OwnF K mg "tells_times" s_tells_times) (B : Bl mg) (C : Cst mg) (h_is_between : HasF P w K mg base CX0 2 "is_between" ["thing", "least", "most"] (spBtw K)) : HasF P w K mg base CX0 4 "tells_times" ["told"] (spAsks K tellsTimes) := by
  refine has0 O sc_tells_times (fun _ _ _ _ _ _ us hl => match us, hl with | [_], _ => rfl) (fun vs H Q E h => ?_) (fun f cdv A outer s_ H vs Q E hr h => ?_)
  · obtain ⟨a, xs, ds, rfl, _⟩ := h
    rfl
  obtain ⟨a, xs, ds, rfl, hs, hR, hl, hd, q⟩ := h
  refine ⟨_, (pss_one (ps_ret (pe_and (pe_cmpR (kEqG K (hU hr)) (pe_callB (kLen K) (by rfl) B.len (by decide +kernel) (pa_cons (pv 0) pa_nil)) pe_int (nomark _)) (pe_one (pe_callH h_is_between (hr.mono (by first | decide | omega)) (by rfl) pass0 (pa_cons (pe_ix (kIx K) (pv 0) pe_int (fun _ _ => rfl)) (pa_cons pe_int (pa_cons (pe_globI C.MOST_TIMES (by rfl)) pa_nil)))))))), ?_⟩
  refine st0 [some (.ref a)] rfl ?_
  walk_at "go"
  refine rd_split (fun c => ?_) (fun c => ?_)
  · obtain ⟨x, d, rfl, rfl, r1⟩ := hR.only c
    walk_at "go"
    refine u_ixT hs rfl ?_
    walk_at "go"
    exact use_btw r1 (q _ (Same.refl _))
  · have ee : false = tellsTimes ds := by
      rw [hR.length] at c
      match ds, c with
      | [], _ => rfl
      | [_], c => exact absurd rfl c
      | _ :: _ :: _, _ => rfl
    rw [ee]; exact q _ (Same.refl _)
abbrev s_tells_room : Stmt := top 26
theorem sc_tells_room : FnScope ["told"] ["told"] (defScope s_tells_room) := ⟨rfl, rfl, rfl, by decide +kernel, rfl, by decide +kernel, by decide +kernel⟩
theorem has_tells_room (O : OwnF K mg "tells_room" s_tells_room) (B : Bl mg) (C : Cst mg) (h_is_between : HasF P w K mg base CX0 2 "is_between" ["thing", "least", "most"] (spBtw K)) : HasF P w K mg base CX0 4 "tells_room" ["told"] (spAsks K tellsRoom) := by
  refine has0 O sc_tells_room (fun _ _ _ _ _ _ us hl => match us, hl with | [_], _ => rfl) (fun vs H Q E h => ?_) (fun f cdv A outer s_ H vs Q E hr h => ?_)
  · obtain ⟨a, xs, ds, rfl, _⟩ := h
    rfl
  obtain ⟨a, xs, ds, rfl, hs, hR, hl, hd, q⟩ := h
  refine ⟨_, (pss_one (ps_ret (pe_and (pe_cmpR (kEqG K (hU hr)) (pe_callB (kLen K) (by rfl) B.len (by decide +kernel) (pa_cons (pv 0) pa_nil)) pe_int (nomark _)) (pe_one (pe_callH h_is_between (hr.mono (by first | decide | omega)) (by rfl) pass0 (pa_cons (pe_ix (kIx K) (pv 0) pe_int (fun _ _ => rfl)) (pa_cons pe_int (pa_cons (pe_globI C.LONGEST_ROW (by rfl)) pa_nil)))))))), ?_⟩
  refine st0 [some (.ref a)] rfl ?_
  walk_at "go"
  refine rd_split (fun c => ?_) (fun c => ?_)
  · obtain ⟨x, d, rfl, rfl, r1⟩ := hR.only c
    walk_at "go"
    refine u_ixT hs rfl ?_
    walk_at "go"
    exact use_btw r1 (q _ (Same.refl _))
  · have ee : false = tellsRoom ds := by
      rw [hR.length] at c
      match ds, c with
      | [], _ => rfl
      | [_], c => exact absurd rfl c
      | _ :: _ :: _, _ => rfl
    rw [ee]; exact q _ (Same.refl _)
end
end Mine

/-! ### P3 -/
namespace Mine
open PySem PySem.Spec L2
local macro_rules | `(tactic| walk_at "st") => `(tactic| first
  | ((with_reducible apply rd_var); exact rfl)
  | (with_reducible apply rd_c)
  | (with_reducible apply rd_seq)
  | (with_reducible apply rd_asg)
  | (with_reducible apply rd_gname)
  | (with_reducible apply rd_op)
  | (with_reducible apply rd_cb)
  | (with_reducible apply rd_cons)
  | (with_reducible apply rd_nil)
  | (with_reducible apply rd_if)
  | (with_reducible apply rd_test)
  | (with_reducible apply rd_bl)
  | (with_reducible apply rd_retE)
  | (with_reducible apply rd_ret)
  | (with_reducible apply rd_call)
  | (with_reducible apply rd_tup)
  | (with_reducible apply rd_lst)
  | (with_reducible apply rd_drop)
  | (with_reducible apply rd_next)
  | (with_reducible apply rd_ife)
  | (with_reducible apply rd_gsub)
  | (with_reducible apply rd_par)
  | (with_reducible apply rd_par_end)
  | (with_reducible apply rd_un)
  | (with_reducible apply rd_and)
  | (with_reducible apply rd_or)
  | (with_reducible apply rd_not)
  | (with_reducible apply rd_andV)
  | (with_reducible apply rd_orV)
  | (with_reducible apply rd_notV)
  | (with_reducible apply rd_chain)
  | (with_reducible apply rd_tB)
  | (with_reducible apply rd_brk)
  | (with_reducible apply rd_ct)
  | (with_reducible apply u_add)
  | (with_reducible apply u_sub)
  | (with_reducible apply u_lt)
  | (with_reducible apply u_le)
  | (with_reducible apply u_gt)
  | (with_reducible apply u_ge)
  | (with_reducible apply u_eqI)
  | (with_reducible apply u_eqS)
  | (with_reducible apply u_neI)
  | (with_reducible apply u_int)
  | (with_reducible apply u_intB)
  | (with_reducible apply u_max)
  | (with_reducible apply u_min)
  | (with_reducible apply u_neg)
  | ((with_reducible apply u_mod); focus first | assumption | decide | omega)
  | ((with_reducible apply u_div); focus first | decide | omega | (constructor <;> first | assumption | omega))
  | ((with_reducible apply u_mul); focus first | exact Or.inl (by omega) | exact Or.inr (by omega) | exact Or.inl (by decide) | exact Or.inr (by decide))
  | ((with_reducible apply u_ixL); (focus (first | assumption | exact SqL.of (by assumption) | exact SqL.of upd_same)); exact rfl)
  | ((with_reducible apply u_lenL); focus (first | assumption | exact SqL.of (by assumption) | exact SqL.of upd_same))
  | ((with_reducible apply u_lenT); focus (first | assumption | exact SqT.of (by assumption) | exact SqT.of upd_same))
  | ((with_reducible apply u_setL); (focus (first | assumption | exact upd_same)); exact rfl)
  | (with_reducible apply rd_chain3)
  | (with_reducible apply rd_tru)
  | (with_reducible apply rd_truB)
  | ((with_reducible apply rd_truL); focus (first | assumption | exact SqL.of (by assumption) | exact SqL.of upd_same))
  | (with_reducible apply rd_bm)
  | (with_reducible apply rd_bm0)
  | ((with_reducible apply rd_tyL); focus (first | exact SqL.of (by assumption) | exact SqL.of upd_same))
  | (with_reducible apply u_min3)
  | (with_reducible apply rd_rev)
  | (with_reducible apply rd_iList)
  | (with_reducible apply rd_iTup)
  | (with_reducible apply rd_for)
  | (with_reducible apply rd_rng1)
  | (with_reducible apply rd_rng2)
  | ((with_reducible apply rd_rng1e); (focus omega); (focus omega))
  | ((with_reducible apply rd_rng2e); (focus omega))
  | (with_reducible apply rd_gcons)
  | (with_reducible apply rd_gnil)
  | (with_reducible apply rd_retN)
  | (with_reducible apply g_eqI)
  | (with_reducible apply g_eqS)
  | (with_reducible apply g_neI)
  | (with_reducible apply g_neS)
  | (with_reducible apply g_neB)
  | (with_reducible apply rd_xf)
  | (with_reducible apply rd_raiseE)
  | (with_reducible apply rd_callS)
  | (with_reducible apply u_inD)
  | (with_reducible apply u_notInD)
  | (with_reducible apply u_inS)
  | (with_reducible apply u_notInS)
  | (with_reducible apply rd_iSeq)
  | ((with_reducible apply rd_seqL); (focus first | assumption | exact SqL.of (by assumption) | exact SqL.of upd_same))
  | ((with_reducible apply rd_seqT); (focus first | assumption | exact SqT.of (by assumption) | exact SqT.of upd_same))
  | (with_reducible apply rd_istr)
  | (with_reducible apply rd_istrE)
  | ((with_reducible apply u_isi); (focus (first | exact Or.inl rfl | exact Or.inr (Or.inl rfl) | exact Or.inr (Or.inr (Or.inl rfl)) | exact Or.inr (Or.inr (Or.inr rfl)))); (focus first | assumption | exact Rp.int _ | exact Rp.str _))
  | ((with_reducible apply rd_itL); (focus first | assumption | exact SqL.of (by assumption) | exact SqL.of upd_same))
  | ((with_reducible apply rd_itT); (focus first | assumption | exact SqT.of (by assumption) | exact SqT.of upd_same))
  | (with_reducible apply rd_lc)
  | (with_reducible apply rd_yes)
  | ((with_reducible apply u_pow); (focus (exact ⟨by decide, by decide, by decide⟩)))
  | (with_reducible apply u_mul; focus exact Or.inr cm)
  | (with_reducible apply rd_par3)
  | (with_reducible apply rd_par3_end)
  | ((with_reducible apply rd_aug); exact rfl)
  | (with_reducible apply rd_ipI)
  | (with_reducible apply iteT)
  | (with_reducible apply iteF))
local macro_rules | `(tactic| walk_at "go") => `(tactic| repeat (walk_at "st"))
local macro_rules | `(tactic| walk_at "sp") => `(tactic| (first | refine rd_split (fun c => ?_) (fun c => ?_) | refine rd_splitN (fun c => ?_) (fun c => ?_) | refine rd_splitB (fun c => ?_) (fun c => ?_)))
local macro_rules | `(tactic| walk_at "nx") => `(tactic| repeat (first | (with_reducible apply iteF) | (with_reducible apply iteT) | (with_reducible apply rd_next)))

section
variable {P : Program} {w : World} {K : PySem.W.Frag} {mg : Str → Option Value} {base : Heap}
def spFits (K : PySem.W.Frag) : Sp := fun vs H Q _ => ∃ (z : Str) (a : Addr) (xs : List V) (ds : List PyData), vs = [.str z, .ref a] ∧ SqT K H a xs ∧ Rps K H xs ds ∧ ds.length ≤ 1000 ∧ dats ds ∧ ∀ H', Same H H' → Q (.bl (toldFits z ds)) H'
theorem use_fits {K : PySem.W.Frag} {z : Str} {a : Addr} {xs : List V} {ds : List PyData} {H : Hp} {Q : VK} {E : XK} (s : SqT K H a xs) (r : Rps K H xs ds) (l : ds.length ≤ 1000) (hd : dats ds) (q : ∀ H', Same H H' → Q (.bl (toldFits z ds)) H') : spFits K [.str z, .ref a] H Q E := ⟨z, a, xs, ds, rfl, s, r, l, hd, q⟩
def spPFit : Sp := fun vs H Q _ => ∃ (z : Str) (n lo hi : Int), vs = [.str z, .int n] ∧ arity z = some (lo, hi) ∧ Q (.bl (partsFit z n)) H
/-- the module's two tables -/
structure PartsTab (w : World) (K : PySem.W.Frag) (mg : Str → Option Value) (a : Addr) (g : Str → Option Value) : Prop where
  tab : Tab w K mg "PARTS" a g
  no : ∀ z, arity z = none → g z = none
  yes : ∀ z lo hi, arity z = some (lo, hi) → ∃ b, g z = some (.ref b) ∧ ∀ H, SqT K H b [.int lo, .int hi]
structure TellsTab (P : Program) (w : World) (K : PySem.W.Frag) (mg : Str → Option Value) (base : Heap) (a : Addr) (g : Str → Option Value) : Prop where
  tab : Tab w K mg "TELLS" a g
  no : ∀ z, asks z = none → g z = none
  yes : ∀ z f, asks z = some f → ∃ b, g z = some (.ref b) ∧ Held P w K mg base 4 b (spAsks K f)
abbrev s_told_fits : Stmt := top 28
theorem sc_told_fits : FnScope ["op", "told", "fits"] ["op", "told"] (defScope s_told_fits) := ⟨rfl, rfl, rfl, by decide +kernel, rfl, by decide +kernel, by decide +kernel⟩
theorem has_told_fits {aP aT : Addr} {gP gT : Str → Option Value} (O : OwnF K mg "told_fits" s_told_fits) (B : Bl mg) (TP : PartsTab w K mg aP gP) (TT : TellsTab P w K mg base aT gT) : HasF P w K mg base CX0 5 "told_fits" ["op", "told"] (spFits K) := by
  refine has0 O sc_told_fits (fun _ _ _ _ _ _ us hl => match us, hl with | [_, _], _ => rfl) (fun vs H Q E h => ?_) (fun f cdv A outer s_ H vs Q E hr h => ?_)
  · obtain ⟨z, a, xs, ds, rfl, _⟩ := h
    rfl
  obtain ⟨z, a, xs, ds, rfl, hs, hR, hl, hd, q⟩ := h
  have T_PARTS := TP.tab
  have T_TELLS := TT.tab
  refine ⟨_, (pss_cons (ps_if (pt_cmpR (op_notInD T_PARTS) (pv 0) (pe_globR T_PARTS.m (by rfl)) (by rfl)) (pss_one (ps_ret pe_bl)) pss_nil) (pss_cons (ps_if (pt_cmpR (op_notInD T_TELLS) (pv 0) (pe_globR T_TELLS.m (by rfl)) (by rfl)) (pss_one (ps_ret (pe_cmpR (kEqG K (hU hr)) (pe_callB (kLen K) (by rfl) B.len (by decide +kernel) (pa_cons (pv 1) pa_nil)) pe_int (nomark _)))) pss_nil) (pss_cons (ps_set (i := 2) sc_told_fits.nd rfl (by first | exact Or.inl rfl | exact Or.inr rfl) (pe_ix (ix_tab T_TELLS) (pe_globR T_TELLS.m (by rfl)) (pv 0) (fun _ _ => rfl))) (pss_one (ps_ret (pe_callV (P := P) (w := w) (K := K) (mg := mg) (base := base) (k := 4) (i := 2) rfl rfl rfl rfl rfl (hr.mono (by decide)) rfl (Or.inl rfl) (pa_cons (pv 1) pa_nil))))))), ?_⟩
  refine st0 [some (.str z), some (.ref a), none] rfl ?_
  walk_at "go"
  cases ea : arity z with
  | none =>
    rw [TP.no z ea]
    refine iteT ?_
    walk_at "go"
    have e : false = toldFits z ds := by simp only [toldFits, ea]
    rw [e]; exact q _ (Same.refl _)
  | some p =>
    obtain ⟨b, eb, _⟩ := TP.yes z p.1 p.2 ea
    rw [eb]
    refine iteF ?_
    walk_at "go"
    cases ef : asks z with
    | none =>
      rw [TT.no z ef]
      refine iteT ?_
      walk_at "go"
      have e : decide ((xs.length : Int) = 0) = toldFits z ds := by simp only [toldFits, ea, ef, hR.length]
      rw [e]; exact q _ (Same.refl _)
    | some f =>
      obtain ⟨c, ec, hH⟩ := TT.yes z f ef
      rw [ec]
      refine iteF ?_
      walk_at "go"
      refine u_ixTab ec (show RelV (.ref c) (.ref c) from rfl) ?_
      walk_at "go"
      refine rd_callV rfl hH ?_
      walk_at "go"
      refine use_asks hs hR hl hd fun H' s' => ?_
      have e : f ds = toldFits z ds := by simp only [toldFits, ea, ef]
      rw [e]; exact q _ s'
abbrev s_parts_fit : Stmt := top 29
theorem sc_parts_fit : FnScope ["op", "many", "least", "most"] ["op", "many"] (defScope s_parts_fit) := ⟨rfl, rfl, rfl, by decide +kernel, rfl, by decide +kernel, by decide +kernel⟩
theorem has_parts_fit {aP : Addr} {gP : Str → Option Value} (O : OwnF K mg "parts_fit" s_parts_fit) (TP : PartsTab w K mg aP gP) : HasF P w K mg base CX0 1 "parts_fit" ["op", "many"] spPFit := by
  refine has0 O sc_parts_fit (fun _ _ _ _ _ _ us hl => match us, hl with | [_, _], _ => rfl) (fun vs H Q E h => ?_) (fun f cdv A outer s_ H vs Q E hr h => ?_)
  · obtain ⟨z, n, lo, hi, rfl, _⟩ := h
    rfl
  obtain ⟨z, n, lo, hi, rfl, ea, q⟩ := h
  have T_PARTS := TP.tab
  refine ⟨_, (pss_cons (ps_asg (pe_ix (ix_tab T_PARTS) (pe_globR T_PARTS.m (by rfl)) (pv 0) (fun _ _ => rfl)) (pg_tupK (n := 2) K rfl (pgs_cons (pg_name (i := 2) sc_parts_fit.nd rfl (by first | exact Or.inl rfl | exact Or.inr rfl)) (pgs_cons (pg_name (i := 3) sc_parts_fit.nd rfl (by first | exact Or.inl rfl | exact Or.inr rfl)) pgs_nil)))) (pss_one (ps_ret (pe_chain leU leU (pv 2) (pv 1) (pv 3))))), ?_⟩
  refine st0 [some (.str z), some (.int n), none, none] rfl ?_
  obtain ⟨b, eb, hb⟩ := TP.yes z lo hi ea
  walk_at "go"
  refine u_ixTab eb (show RelV (.ref b) (.ref b) from rfl) ?_
  refine rd_gtup (hb H) rfl ?_
  walk_at "go"
  have e : partsFit z n = (decide (lo ≤ n) && decide (n ≤ hi)) := by simp only [partsFit, ea]
  refine rd_split (fun c => ?_) (fun c => ?_)
  · walk_at "go"
    rw [e, decide_eq_true c, Bool.true_and] at q
    exact q
  · rw [e, decide_eq_false c, Bool.false_and] at q
    exact q
/-- an error of the class at C with a number leaves; what stood stands -/
def Raised (E : XK) (H : Hp) (C : Addr) (n : Int) : Prop := ∀ (H' : Hp) (d : Addr), Same H H' → H' d = some (.xd [("what", .int n)]) → E (.ref C) (some d) H'
theorem Raised.mono {E : XK} {H H1 : Hp} {C : Addr} {n : Int} (h : Raised E H C n) (s : Same H H1) : Raised E H1 C n := fun H' d s' e => h H' d (s.trans s') e
def spCount (cM : Addr) : Sp := fun vs H Q E => ∃ (n : Int), vs = [.int n] ∧ (40 ≤ n → Raised E H cM 41) ∧ (n < 40 → Q .non H)
abbrev s_check_count : Stmt := top 32
theorem sc_check_count : FnScope ["number"] ["number"] (defScope s_check_count) := ⟨rfl, rfl, rfl, by decide +kernel, rfl, by decide +kernel, by decide +kernel⟩
theorem has_check_count {fI cM : Addr} (O : OwnF K mg "check_count" s_check_count) (C : Cst mg) (hI : InitF P w K mg base fI) (M_TooMany : ErrC K mg fI "TooMany" cM) : HasF P w K mg base (L2.CX P w) 3 "check_count" ["number"] (spCount cM) := by
  refine hasX O sc_check_count (fun _ _ _ _ _ _ us hl => match us, hl with | [_], _ => rfl) (fun vs H Q E h => ?_) (fun f cdv A outer s_ H vs Q E hr h => ?_)
  · obtain ⟨n, rfl, _⟩ := h
    rfl
  obtain ⟨n, rfl, h1, h2⟩ := h
  refine ⟨_, (pss_one (ps_if (pt_cmpR geU (pv 0) (pe_globI C.MOST_JOINTS (by rfl)) (nomark _)) (pss_one (ps_raiseE K hI M_TooMany rfl (hr.mono (by decide)) tkX (pe_op (kAdd K) (pe_globI C.MOST_JOINTS (by rfl)) pe_int) (by rfl))) pss_nil)), ?_⟩
  refine st0 [some (.int n)] rfl ?_
  walk_at "go"
  refine rd_split (fun c => ?_) (fun c => ?_)
  · walk_at "go"
    exact u_raise M_TooMany.c M_TooMany.n fun d hd => h1 c _ d (same_new hd _) upd_same
  · walk_at "go"
    exact h2 (by omega)
def spForm (K : PySem.W.Frag) (cO cP : Addr) : Sp := fun vs H Q E => ∃ (z : Str) (a : Addr) (xs : List V) (ds : List PyData) (m n : Int), vs = [.str z, .ref a, .int m, .int n] ∧ SqT K H a xs ∧ Rps K H xs ds ∧ ds.length ≤ 1000 ∧ dats ds ∧
  (toldFits z ds = false → Raised E H cO n) ∧ (toldFits z ds = true → partsFit z m = false → Raised E H cP n) ∧ (toldFits z ds = true → partsFit z m = true → ∀ H', Same H H' → Q .non H')
abbrev s_check_form : Stmt := top 33
theorem sc_check_form : FnScope ["op", "told", "many", "place"] ["op", "told", "many", "place"] (defScope s_check_form) := ⟨rfl, rfl, rfl, by decide +kernel, rfl, by decide +kernel, by decide +kernel⟩
theorem has_check_form {fI cO cP : Addr} (O : OwnF K mg "check_form" s_check_form) (hI : InitF P w K mg base fI) (M_BadOp : ErrC K mg fI "BadOp" cO) (M_BadParts : ErrC K mg fI "BadParts" cP) (h_told_fits : HasF P w K mg base CX0 5 "told_fits" ["op", "told"] (spFits K)) (h_parts_fit : HasF P w K mg base CX0 1 "parts_fit" ["op", "many"] spPFit) : HasF P w K mg base (L2.CX P w) 6 "check_form" ["op", "told", "many", "place"] (spForm K cO cP) := by
  refine hasX O sc_check_form (fun _ _ _ _ _ _ us hl => match us, hl with | [_, _, _, _], _ => rfl) (fun vs H Q E h => ?_) (fun f cdv A outer s_ H vs Q E hr h => ?_)
  · obtain ⟨z, a, xs, ds, m, n, rfl, _⟩ := h
    rfl
  obtain ⟨z, a, xs, ds, m, n, rfl, hs, hR, hl, hd, h1, h2, h3⟩ := h
  refine ⟨_, (pss_cons (ps_if (pt_not (pt_val (pe_callH h_told_fits (hr.mono (by first | decide | omega)) (by rfl) pass0 (pa_cons (pv 0) (pa_cons (pv 1) pa_nil))))) (pss_one (ps_raiseE K hI M_BadOp rfl (hr.mono (by decide)) tkX (pv 3) (by rfl))) pss_nil) (pss_one (ps_if (pt_not (pt_val (pe_callH h_parts_fit (hr.mono (by first | decide | omega)) (by rfl) pass0 (pa_cons (pv 0) (pa_cons (pv 2) pa_nil))))) (pss_one (ps_raiseE K hI M_BadParts rfl (hr.mono (by decide)) tkX (pv 3) (by rfl))) pss_nil))), ?_⟩
  refine st0 [some (.str z), some (.ref a), some (.int m), some (.int n)] rfl ?_
  walk_at "go"
  refine use_fits hs hR hl hd fun H' s' => ?_
  walk_at "go"
  cases e1 : toldFits z ds with
  | false =>
    refine iteT ?_
    walk_at "go"
    exact u_raise M_BadOp.c M_BadOp.n fun d hd => h1 e1 _ d (Same.new s' hd) upd_same
  | true =>
    refine iteF ?_
    obtain ⟨lo, hi, ea⟩ := fits_arity e1
    walk_at "go"
    refine ⟨z, m, lo, hi, rfl, ea, ?_⟩
    walk_at "go"
    cases e2 : partsFit z m with
    | false =>
      refine iteT ?_
      walk_at "go"
      exact u_raise M_BadParts.c M_BadParts.n fun d hd => h2 e1 e2 _ d (Same.new s' hd) upd_same
    | true =>
      refine iteF ?_
      walk_at "go"
      exact h3 e1 e2 _ s'
end
end Mine

/-! ### P4 -/
namespace Mine
open PySem PySem.Spec L2
local macro_rules | `(tactic| walk_at "st") => `(tactic| first
  | ((with_reducible apply rd_var); exact rfl)
  | (with_reducible apply rd_c)
  | (with_reducible apply rd_seq)
  | (with_reducible apply rd_asg)
  | (with_reducible apply rd_gname)
  | (with_reducible apply rd_op)
  | (with_reducible apply rd_cb)
  | (with_reducible apply rd_cons)
  | (with_reducible apply rd_nil)
  | (with_reducible apply rd_if)
  | (with_reducible apply rd_test)
  | (with_reducible apply rd_bl)
  | (with_reducible apply rd_retE)
  | (with_reducible apply rd_ret)
  | (with_reducible apply rd_call)
  | (with_reducible apply rd_tup)
  | (with_reducible apply rd_lst)
  | (with_reducible apply rd_drop)
  | (with_reducible apply rd_next)
  | (with_reducible apply rd_ife)
  | (with_reducible apply rd_gsub)
  | (with_reducible apply rd_par)
  | (with_reducible apply rd_par_end)
  | (with_reducible apply rd_un)
  | (with_reducible apply rd_and)
  | (with_reducible apply rd_or)
  | (with_reducible apply rd_not)
  | (with_reducible apply rd_andV)
  | (with_reducible apply rd_orV)
  | (with_reducible apply rd_notV)
  | (with_reducible apply rd_chain)
  | (with_reducible apply rd_tB)
  | (with_reducible apply rd_brk)
  | (with_reducible apply rd_ct)
  | (with_reducible apply u_add)
  | (with_reducible apply u_sub)
  | (with_reducible apply u_lt)
  | (with_reducible apply u_le)
  | (with_reducible apply u_gt)
  | (with_reducible apply u_ge)
  | (with_reducible apply u_eqI)
  | (with_reducible apply u_eqS)
  | (with_reducible apply u_neI)
  | (with_reducible apply u_int)
  | (with_reducible apply u_intB)
  | (with_reducible apply u_max)
  | (with_reducible apply u_min)
  | (with_reducible apply u_neg)
  | ((with_reducible apply u_mod); focus first | assumption | decide | omega)
  | ((with_reducible apply u_div); focus first | decide | omega | (constructor <;> first | assumption | omega))
  | ((with_reducible apply u_mul); focus first | exact Or.inl (by omega) | exact Or.inr (by omega) | exact Or.inl (by decide) | exact Or.inr (by decide))
  | ((with_reducible apply u_ixL); (focus (first | assumption | exact SqL.of (by assumption) | exact SqL.of upd_same)); exact rfl)
  | ((with_reducible apply u_lenL); focus (first | assumption | exact SqL.of (by assumption) | exact SqL.of upd_same))
  | ((with_reducible apply u_lenT); focus (first | assumption | exact SqT.of (by assumption) | exact SqT.of upd_same))
  | ((with_reducible apply u_setL); (focus (first | assumption | exact upd_same)); exact rfl)
  | (with_reducible apply rd_chain3)
  | (with_reducible apply rd_tru)
  | (with_reducible apply rd_truB)
  | ((with_reducible apply rd_truL); focus (first | assumption | exact SqL.of (by assumption) | exact SqL.of upd_same))
  | (with_reducible apply rd_bm)
  | (with_reducible apply rd_bm0)
  | ((with_reducible apply rd_tyL); focus (first | exact SqL.of (by assumption) | exact SqL.of upd_same))
  | (with_reducible apply u_min3)
  | (with_reducible apply rd_rev)
  | (with_reducible apply rd_iList)
  | (with_reducible apply rd_iTup)
  | (with_reducible apply rd_for)
  | (with_reducible apply rd_rng1)
  | (with_reducible apply rd_rng2)
  | ((with_reducible apply rd_rng1e); (focus omega); (focus omega))
  | ((with_reducible apply rd_rng2e); (focus omega))
  | (with_reducible apply rd_gcons)
  | (with_reducible apply rd_gnil)
  | (with_reducible apply rd_retN)
  | (with_reducible apply g_eqI)
  | (with_reducible apply g_eqS)
  | (with_reducible apply g_neI)
  | (with_reducible apply g_neS)
  | (with_reducible apply g_neB)
  | (with_reducible apply rd_xf)
  | (with_reducible apply rd_raiseE)
  | (with_reducible apply rd_callS)
  | (with_reducible apply u_inD)
  | (with_reducible apply u_notInD)
  | (with_reducible apply u_inS)
  | (with_reducible apply u_notInS)
  | (with_reducible apply rd_iSeq)
  | ((with_reducible apply rd_seqL); (focus first | assumption | exact SqL.of (by assumption) | exact SqL.of upd_same))
  | ((with_reducible apply rd_seqT); (focus first | assumption | exact SqT.of (by assumption) | exact SqT.of upd_same))
  | (with_reducible apply rd_istr)
  | (with_reducible apply rd_istrE)
  | ((with_reducible apply u_isi); (focus (first | exact Or.inl rfl | exact Or.inr (Or.inl rfl) | exact Or.inr (Or.inr (Or.inl rfl)) | exact Or.inr (Or.inr (Or.inr rfl)))); (focus first | assumption | exact Rp.int _ | exact Rp.str _))
  | ((with_reducible apply rd_itL); (focus first | assumption | exact SqL.of (by assumption) | exact SqL.of upd_same))
  | ((with_reducible apply rd_itT); (focus first | assumption | exact SqT.of (by assumption) | exact SqT.of upd_same))
  | (with_reducible apply rd_lc)
  | (with_reducible apply rd_yes)
  | ((with_reducible apply u_pow); (focus (exact ⟨by decide, by decide, by decide⟩)))
  | (with_reducible apply u_mul; focus exact Or.inr cm)
  | (with_reducible apply rd_par3)
  | (with_reducible apply rd_par3_end)
  | ((with_reducible apply rd_aug); exact rfl)
  | (with_reducible apply rd_ipI)
  | (with_reducible apply iteT)
  | (with_reducible apply iteF))
local macro_rules | `(tactic| walk_at "go") => `(tactic| repeat (walk_at "st"))
local macro_rules | `(tactic| walk_at "sp") => `(tactic| (first | refine rd_split (fun c => ?_) (fun c => ?_) | refine rd_splitN (fun c => ?_) (fun c => ?_) | refine rd_splitB (fun c => ?_) (fun c => ?_)))
local macro_rules | `(tactic| walk_at "nx") => `(tactic| repeat (first | (with_reducible apply iteF) | (with_reducible apply iteT) | (with_reducible apply rd_next)))

section
variable {P : Program} {w : World} {K : PySem.W.Frag} {mg : Str → Option Value} {base : Heap}
abbrev s_is_triple : Stmt := top 34
theorem sc_is_triple : FnScope ["thing", "op", "told", "parts"] ["thing"] (defScope s_is_triple) := ⟨rfl, rfl, rfl, by decide +kernel, rfl, by decide +kernel, by decide +kernel⟩
theorem has_is_triple (O : OwnF K mg "is_triple" s_is_triple) (B : Bl mg) : HasF P w K mg base CX0 1 "is_triple" ["thing"] (spAsk K isTri) := by
  refine has0 O sc_is_triple (fun _ _ _ _ _ _ us hl => match us, hl with | [_], _ => rfl) (fun vs H Q E h => ?_) (fun f cdv A outer s_ H vs Q E hr h => ?_)
  · obtain ⟨v, d, rfl, _⟩ := h
    rfl
  obtain ⟨v, d, rfl, r, hd, q⟩ := h
  refine ⟨_, (pss_cons (ps_if (PW.pt (pw_or (pt_not (pt_val (pe_callB (kIsi K) (by rfl) B.isinstance (by decide +kernel) (pa_cons (pv 0) (pa_cons (pe_bltn (v := .ty "tuple") (by rfl) B.tuple (by decide +kernel) rfl) pa_nil))))) (pw_or1 (pt_cmpR (kNeG K (hU hr)) (pe_callB (kLen K) (by rfl) B.len (by decide +kernel) (pa_cons (pv 0) pa_nil)) pe_int (nomark _))))) (pss_one (ps_ret pe_bl)) pss_nil) (pss_cons (ps_asg (pv 0) (pg_tupK (n := 3) K rfl (pgs_cons (pg_name (i := 1) sc_is_triple.nd rfl (by first | exact Or.inl rfl | exact Or.inr rfl)) (pgs_cons (pg_name (i := 2) sc_is_triple.nd rfl (by first | exact Or.inl rfl | exact Or.inr rfl)) (pgs_cons (pg_name (i := 3) sc_is_triple.nd rfl (by first | exact Or.inl rfl | exact Or.inr rfl)) pgs_nil))))) (pss_one (ps_ret (pe_and (pe_callB (kIsi K) (by rfl) B.isinstance (by decide +kernel) (pa_cons (pv 1) (pa_cons (pe_bltn (v := .ty "str") (by rfl) B.str (by decide +kernel) rfl) pa_nil))) (pe_and (pe_callB (kIsi K) (by rfl) B.isinstance (by decide +kernel) (pa_cons (pv 2) (pa_cons (pe_bltn (v := .ty "tuple") (by rfl) B.tuple (by decide +kernel) rfl) pa_nil))) (pe_one (pe_callB (kIsi K) (by rfl) B.isinstance (by decide +kernel) (pa_cons (pv 3) (pa_cons (pe_bltn (v := .ty "tuple") (by rfl) B.tuple (by decide +kernel) rfl) pa_nil)))))))))), ?_⟩
  refine st0 [some v, none, none, none] rfl ?_
  walk_at "go"
  cases r with
  | @tup a xs ds hs hR =>
    refine iteF ?_
    walk_at "go"
    refine rd_splitN (fun c => ?_) (fun c => ?_)
    · walk_at "go"
      have e : false = isTri (.tuple ds) := by
        rw [hR.length] at c
        match ds, c with
        | [], _ => rfl
        | [x], _ => cases x <;> rfl
        | [x, y], _ => cases x <;> cases y <;> rfl
        | [_, _, _], c => exact absurd rfl c
        | x :: y :: z :: _ :: _, _ => cases x <;> cases y <;> cases z <;> rfl
      rw [e]; exact q _ (Same.refl _)
    · obtain ⟨x, y, z, d, e, f, rfl, rfl, r1, r2, r3⟩ := hR.three c
      walk_at "go"
      refine rd_gtup hs rfl ?_
      walk_at "go"
      have ee : (isT "str" d && isT "tuple" e && isT "tuple" f) = isTri (.tuple [d, e, f]) := by
        cases d <;> simp [isT, isTri] <;> cases e <;> simp [isT, isTri] <;> cases f <;> simp [isT, isTri]
      have q' := q H (Same.refl _)
      rw [← ee] at q'
      refine rd_splitB (fun c1 => ?_) (fun c1 => ?_)
      · walk_at "go"
        refine rd_splitB (fun c2 => ?_) (fun c2 => ?_)
        · walk_at "go"
          rw [c1, c2, Bool.true_and] at q'
          exact q'
        · rw [c1, c2, Bool.true_and] at q'
          exact q'
      · rw [c1] at q'
        exact q'
  | non => refine iteT ?_; walk_at "go"; exact q _ (Same.refl _)
  | bl b => refine iteT ?_; walk_at "go"; exact q _ (Same.refl _)
  | int i => refine iteT ?_; walk_at "go"; exact q _ (Same.refl _)
  | str z => refine iteT ?_; walk_at "go"; exact q _ (Same.refl _)
/-- the classes of the faults -/
structure Ecl where
  many : Addr
  prog : Addr
  op : Addr
  parts : Addr
def Ecl.of (c : Ecl) : Flt → Addr
  | .many => c.many
  | .prog => c.prog
  | .op => c.op
  | .parts => c.parts
def spJoint (K : PySem.W.Frag) (c : Ecl) : Sp := fun vs H Q E => ∃ (v : V) (d : PyData) (n : Int), vs = [v, .int n] ∧ Rp K H v d ∧ dat d ∧ (∀ f, jf d n = some f → Raised E H (c.of f) (fval f n)) ∧ (jf d n = none → ∀ H', Same H H' → Q .non H')
theorem use_joint {K : PySem.W.Frag} {c : Ecl} {v : V} {d : PyData} {n : Int} {H : Hp} {Q : VK} {E : XK} (r : Rp K H v d) (hd : dat d) (h1 : ∀ f, jf d n = some f → Raised E H (c.of f) (fval f n)) (h2 : jf d n = none → ∀ H', Same H H' → Q .non H') : spJoint K c [v, .int n] H Q E := ⟨v, d, n, rfl, r, hd, h1, h2⟩
abbrev s_check_joint : Stmt := top 35
theorem sc_check_joint : FnScope ["thing", "number", "op", "told", "parts"] ["thing", "number"] (defScope s_check_joint) := ⟨rfl, rfl, rfl, by decide +kernel, rfl, by decide +kernel, by decide +kernel⟩
theorem has_check_joint {fI : Addr} {c : Ecl} (O : OwnF K mg "check_joint" s_check_joint) (B : Bl mg) (hI : InitF P w K mg base fI) (M_BadProgram : ErrC K mg fI "BadProgram" c.prog) (h_check_count : HasF P w K mg base (L2.CX P w) 3 "check_count" ["number"] (spCount c.many)) (h_is_triple : HasF P w K mg base CX0 1 "is_triple" ["thing"] (spAsk K isTri)) (h_check_form : HasF P w K mg base (L2.CX P w) 6 "check_form" ["op", "told", "many", "place"] (spForm K c.op c.parts)) : HasF P w K mg base (L2.CX P w) 7 "check_joint" ["thing", "number"] (spJoint K c) := by
  refine hasX O sc_check_joint (fun _ _ _ _ _ _ us hl => match us, hl with | [_, _], _ => rfl) (fun vs H Q E h => ?_) (fun f cdv A outer s_ H vs Q E hr h => ?_)
  · obtain ⟨v, d, n, rfl, _⟩ := h
    rfl
  obtain ⟨v, d, n, rfl, r, hd, h1, h2⟩ := h
  refine ⟨_, (pss_cons (ps_expr (pe_callHS h_check_count (hr.mono (by first | decide | omega)) (by rfl) (fun σ => passAt tkX σ) (pa_cons (pv 1) pa_nil))) (pss_cons (ps_if (pt_not (pt_val (pe_callH h_is_triple (hr.mono (by first | decide | omega)) (by rfl) pass0 (pa_cons (pv 0) pa_nil)))) (pss_one (ps_raiseE K hI M_BadProgram rfl (hr.mono (by decide)) tkX (pv 1) (by rfl))) pss_nil) (pss_cons (ps_asg (pv 0) (pg_tupK (n := 3) K rfl (pgs_cons (pg_name (i := 2) sc_check_joint.nd rfl (by first | exact Or.inl rfl | exact Or.inr rfl)) (pgs_cons (pg_name (i := 3) sc_check_joint.nd rfl (by first | exact Or.inl rfl | exact Or.inr rfl)) (pgs_cons (pg_name (i := 4) sc_check_joint.nd rfl (by first | exact Or.inl rfl | exact Or.inr rfl)) pgs_nil))))) (pss_one (ps_expr (pe_callHS h_check_form (hr.mono (by first | decide | omega)) (by rfl) (fun σ => passAt tkX σ) (pa_cons (pv 2) (pa_cons (pv 3) (pa_cons (pe_callB (kLen K) (by rfl) B.len (by decide +kernel) (pa_cons (pv 4) pa_nil)) (pa_cons (pv 1) pa_nil)))))))))), ?_⟩
  refine st0 [some v, some (.int n), none, none, none] rfl ?_
  walk_at "go"
  refine ⟨n, rfl, fun c40 => ?_, fun c40 => ?_⟩
  · exact h1 .many (by unfold jf; rw [if_pos c40])
  have n40 : ¬ (40 : Int) ≤ n := by omega
  walk_at "go"
  refine use_ask r hd fun H1 s1 => ?_
  walk_at "go"
  by_cases ct : ∃ op told parts, d = .tuple [.str op, .tuple told, .tuple parts]
  · obtain ⟨op, told, parts, rfl⟩ := ct
    refine iteF ?_
    walk_at "go"
    have r1 := r.mono (Ext.of_same s1) _ _
    cases r1 with
    | @tup a xs ds hs hR =>
    obtain ⟨x, y, z, d, e, f, rfl, ed, ra, rb, rc⟩ := hR.three (by rw [hR.length] <;> rfl)
    cases ed
    cases ra
    cases rb with
    | @tup a2 xs2 ds2 hs2 hR2 =>
    cases rc with
    | @tup a3 xs3 ds3 hs3 hR3 =>
    refine rd_gtup hs rfl ?_
    walk_at "go"
    have hd2 : told.length ≤ 1000 ∧ dats told := hd.2.2.1
    have el := hR3.length
    refine ⟨op, a2, xs2, told, _, n, rfl, hs2, hR2, hd2.1, hd2.2, fun e1 => ?_, fun e1 e2 => ?_, fun e1 e2 H2 s2 => ?_⟩
    · exact (h1 .op (by unfold jf; rw [if_neg n40]; simp only [e1]; rfl)).mono s1
    · rw [el] at e2
      exact (h1 .parts (by unfold jf; rw [if_neg n40]; simp only [e1, e2]; rfl)).mono s1
    · rw [el] at e2
      walk_at "go"
      exact h2 (by unfold jf; rw [if_neg n40]; simp only [e1, e2]; rfl) _ (s1.trans s2)
  · have e1 : isTri d = false := by
      cases hh : isTri d with
      | false => rfl
      | true =>
        unfold isTri at hh
        split at hh
        · exact absurd ⟨_, _, _, rfl⟩ ct
        · cases hh
    have e2 : jf d n = some .prog := by
      unfold jf
      rw [if_neg n40]
      split
      · exact absurd ⟨_, _, _, rfl⟩ ct
      · rfl
    rw [e1]
    refine iteT ?_
    walk_at "go"
    exact u_raise M_BadProgram.c M_BadProgram.n fun d' hd' => h1 .prog e2 _ d' (Same.new s1 hd') upd_same
def spMade (K : PySem.W.Frag) (c : Ecl) : Sp := fun vs H Q E => ∃ (v : V) (d : PyData), vs = [v] ∧ Rp K H v d ∧ dat d ∧ (∀ f n, walk 42 [d] 0 = some (f, n) → Raised E H (c.of f) n) ∧ (walk 42 [d] 0 = none → ∀ H', Same H H' → Q v H')
theorem use_made {K : PySem.W.Frag} {c : Ecl} {v : V} {d : PyData} {H : Hp} {Q : VK} {E : XK} (r : Rp K H v d) (hd : dat d) (h1 : ∀ f n, walk 42 [d] 0 = some (f, n) → Raised E H (c.of f) n) (h2 : walk 42 [d] 0 = none → ∀ H', Same H H' → Q v H') : spMade K c [v] H Q E := ⟨v, d, rfl, r, hd, h1, h2⟩
abbrev s_made_program : Stmt := top 36
theorem sc_made_program : FnScope ["thing", "number", "waiting", "joint"] ["thing"] (defScope s_made_program) := ⟨rfl, rfl, rfl, by decide +kernel, rfl, by decide +kernel, by decide +kernel⟩
theorem has_made_program {c : Ecl} (O : OwnF K mg "made_program" s_made_program) (h_check_joint : HasF P w K mg base (L2.CX P w) 7 "check_joint" ["thing", "number"] (spJoint K c)) : HasF P w K mg base (L2.CX P w) 8 "made_program" ["thing"] (spMade K c) := by
  refine hasX O sc_made_program (fun _ _ _ _ _ _ us hl => match us, hl with | [_], _ => rfl) (fun vs H Q E h => ?_) (fun f cdv A outer s_ H vs Q E hr h => ?_)
  · obtain ⟨v, d, rfl, _⟩ := h
    rfl
  obtain ⟨v, d, rfl, r, hd, h1, h2⟩ := h
  refine ⟨_, (pss_cons (ps_set (i := 1) sc_made_program.nd rfl (by first | exact Or.inl rfl | exact Or.inr rfl) pe_int) (pss_cons (ps_set (i := 2) sc_made_program.nd rfl (by first | exact Or.inl rfl | exact Or.inr rfl) (pe_lst (pa_cons (pv 0) pa_nil))) (pss_cons (ps_while poX (pt_truthK K (pv 2) (by intro _; rfl)) (pss_cons (ps_set (i := 3) sc_made_program.nd rfl (by first | exact Or.inl rfl | exact Or.inr rfl) (pe_bm0K K PySem.F.plainAttrs_list PySem.F.slot_list_pop PySem.F.type_list_pop mt_pop (pv 2))) (pss_cons (ps_expr (pe_callHS h_check_joint (hr.mono (by first | decide | omega)) (by rfl) (fun σ => passAt tkX σ) (pa_cons (pv 3) (pa_cons (pv 1) pa_nil)))) (pss_cons (ps_aug (i := 1) sc_made_program.nd rfl (by first | exact Or.inl rfl | exact Or.inr rfl) pe_int ip_add) (pss_one (ps_expr (pe_bmK K PySem.F.plainAttrs_list PySem.F.slot_list_extend PySem.F.type_list_extend (kExt K) (pv 2) (pa_cons (pe_revK K (pe_ix (kIx K) (pv 3) pe_int (fun _ _ => rfl))) pa_nil)))))))) (pss_one (ps_ret (pv 0)))))), ?_⟩
  refine st0 [some v, none, none, none] rfl ?_
  walk_at "go"
  refine ⟨lk rfl, fun a ha => ?_⟩
  walk_at "go"
  refine rd_while (fun m σ H' => ∃ (n : Int) (st : List PyData) (xs : List V) (o : Option V), σ = [some v, some (.int n), some (.ref a), o] ∧ Same H H' ∧ H' a = some (.lst xs) ∧ Rps K H' xs st.reverse ∧ dats st ∧ 0 ≤ n ∧ n ≤ 40 ∧ n + m = 42 ∧ walk m st n = walk 42 [d] 0 ∧ (xs.length : Int) ≤ 1 + 1000 * n) 42
    ⟨0, [d], [v], none, rfl, same_new ha _, upd_same, .one (r.mono (Ext.new ha) _ _), ⟨hd, trivial⟩, by omega, by omega, by omega, rfl, by simp⟩ ?_
  rintro m σ H' ⟨n, st, xs, o, rfl, s', ea, hR, hd', n0, n1, nm, ew, hl⟩
  walk_at "go"
  match st, hR, hd', ew with
  | [], hR, hd', ew =>
    cases hR
    refine iteF ?_
    walk_at "go"
    rw [walk_none] at ew
    exact h2 ew.symm _ s'
  | j :: r0, hR, hd', ew =>
    have hR' := hR
    rw [List.reverse_cons] at hR'
    have hlen := hR.length
    have hpos : 0 < xs.length := by rw [hlen, List.length_reverse]; exact Nat.succ_pos _
    have hne : (!xs.isEmpty) = true := by cases xs with
      | nil => cases hpos
      | cons _ _ => rfl
    rw [hne]
    refine iteT ⟨fun σ' H' => ∃ m', m' < m ∧ _, fun _ _ h => h, ?_⟩
    walk_at "go"
    have e2 : (r0.reverse ++ [j])[xs.length - 1]? = some j := by
      rw [hlen, List.reverse_cons, List.length_append]
      simp
    obtain ⟨u, eu, ru⟩ := hR'.get e2
    refine u_pop ea eu ?_
    walk_at "go"
    have dj : dat j := hd'.1
    have xD : Ext K H' (upd H' a (.lst xs.dropLast)) := Ext.set ea trivial
    obtain ⟨m', rfl⟩ : ∃ m', m = m' + 1 := ⟨m - 1, by omega⟩
    refine use_joint (ru.mono xD _ _) dj (fun f ef => ?_) (fun ef H2 s2 => ?_)
    · have ew' : walk 42 [d] 0 = some (f, fval f n) := by
        rw [← ew]
        show (match jf j n with | some f => some (f, fval f n) | none => walk m' (partsOf j ++ r0) (n + 1)) = _
        rw [ef]
      exact (h1 _ _ ew').mono (Same.upd_new s' ha)
    · obtain ⟨op, told, parts, rfl⟩ := jf_tri ef
      have r2 := (ru.mono xD _ _).mono (Ext.of_same s2) _ _
      walk_at "go"
      cases r2 with
      | @tup aj xj dj2 hsj hRj =>
      obtain ⟨x, y, z, p, q, t, rfl, ed, ra, rb, rc⟩ := hRj.three (by rw [hRj.length] <;> rfl)
      cases ed
      cases rc with
      | @tup a3 xs3 ds3 hs3 hR3 =>
      have ea2 : H2 a = some (.lst xs.dropLast) := s2 _ _ upd_same
      have dp : parts.length ≤ 1000 ∧ dats parts := dj.2.2.2.1
      have lp := hR3.length
      refine rd_tyL (SqL.of ea2) ?_
      walk_at "go"
      refine u_ixT hsj rfl ?_
      refine rd_revT hs3 ?_
      intro b hb
      walk_at "go"
      have nab : a ≠ b := ne_of_none ea2 hb
      have n40 := jf_many ef
      refine u_extT (xs := xs.dropLast) (by rw [upd_ne nab]; exact ea2) (SqT.of upd_same) ?_ ?_
      · rw [List.length_dropLast, List.length_reverse, lp]
        exact ll (by omega)
      walk_at "go"
      refine ⟨m', Nat.lt_succ_self _, n + 1, parts ++ r0, xs.dropLast ++ xs3.reverse, _, rfl, ?_, upd_same, ?_, dats_append dp.2 hd'.2, by omega, by omega, by omega, ?_, ?_⟩
      · exact Same.upd_new (Same.new ((Same.upd_new s' ha).trans s2) hb) ha
      · rw [List.reverse_append]
        refine Rps.append ?_ ?_
        · have h3 := hR'.dropLast
          rw [List.dropLast_concat] at h3
          exact ((h3.mono xD _ _).mono (Ext.of_same s2) _ _).mono ((Ext.new hb).trans (Ext.set (o := .lst xs.dropLast) (by rw [upd_ne nab]; exact ea2) trivial)) _ _
        · exact (hR3.reverse).mono ((Ext.new hb).trans (Ext.set (o := .lst xs.dropLast) (by rw [upd_ne nab]; exact ea2) trivial)) _ _
      · rw [← ew]
        show _ = (match jf _ n with | some f => some (f, fval f n) | none => walk m' (partsOf _ ++ r0) (n + 1))
        rw [ef]
        rfl
      · rw [List.length_append, List.length_dropLast, List.length_reverse, lp]
        omega
end
end Mine

/-! ### G1 -/
namespace Mine
open PySem PySem.Spec L2
local macro_rules | `(tactic| walk_at "st") => `(tactic| first
  | ((with_reducible apply rd_var); exact rfl)
  | (with_reducible apply rd_c)
  | (with_reducible apply rd_seq)
  | (with_reducible apply rd_asg)
  | (with_reducible apply rd_gname)
  | (with_reducible apply rd_op)
  | (with_reducible apply rd_cb)
  | (with_reducible apply rd_cons)
  | (with_reducible apply rd_nil)
  | (with_reducible apply rd_if)
  | (with_reducible apply rd_test)
  | (with_reducible apply rd_bl)
  | (with_reducible apply rd_retE)
  | (with_reducible apply rd_ret)
  | (with_reducible apply rd_call)
  | (with_reducible apply rd_tup)
  | (with_reducible apply rd_lst)
  | (with_reducible apply rd_drop)
  | (with_reducible apply rd_next)
  | (with_reducible apply rd_ife)
  | (with_reducible apply rd_gsub)
  | (with_reducible apply rd_par)
  | (with_reducible apply rd_par_end)
  | (with_reducible apply rd_un)
  | (with_reducible apply rd_and)
  | (with_reducible apply rd_or)
  | (with_reducible apply rd_not)
  | (with_reducible apply rd_andV)
  | (with_reducible apply rd_orV)
  | (with_reducible apply rd_notV)
  | (with_reducible apply rd_chain)
  | (with_reducible apply rd_tB)
  | (with_reducible apply rd_brk)
  | (with_reducible apply rd_ct)
  | (with_reducible apply u_add)
  | (with_reducible apply u_sub)
  | (with_reducible apply u_lt)
  | (with_reducible apply u_le)
  | (with_reducible apply u_gt)
  | (with_reducible apply u_ge)
  | (with_reducible apply u_eqI)
  | (with_reducible apply u_eqS)
  | (with_reducible apply u_neI)
  | (with_reducible apply u_int)
  | (with_reducible apply u_intB)
  | (with_reducible apply u_max)
  | (with_reducible apply u_min)
  | (with_reducible apply u_neg)
  | ((with_reducible apply u_mod); focus first | assumption | decide | omega)
  | ((with_reducible apply u_div); focus first | decide | omega | (constructor <;> first | assumption | omega))
  | ((with_reducible apply u_mul); focus first | exact Or.inl (by omega) | exact Or.inr (by omega) | exact Or.inl (by decide) | exact Or.inr (by decide))
  | ((with_reducible apply u_ixL); (focus (first | assumption | exact SqL.of (by assumption) | exact SqL.of upd_same)); exact rfl)
  | ((with_reducible apply u_lenL); focus (first | assumption | exact SqL.of (by assumption) | exact SqL.of upd_same))
  | ((with_reducible apply u_lenT); focus (first | assumption | exact SqT.of (by assumption) | exact SqT.of upd_same))
  | ((with_reducible apply u_setL); (focus (first | assumption | exact upd_same)); exact rfl)
  | (with_reducible apply rd_chain3)
  | (with_reducible apply rd_tru)
  | (with_reducible apply rd_truB)
  | ((with_reducible apply rd_truL); focus (first | assumption | exact SqL.of (by assumption) | exact SqL.of upd_same))
  | (with_reducible apply rd_bm)
  | (with_reducible apply rd_bm0)
  | ((with_reducible apply rd_tyL); focus (first | exact SqL.of (by assumption) | exact SqL.of upd_same))
  | (with_reducible apply u_min3)
  | (with_reducible apply rd_rev)
  | (with_reducible apply rd_iList)
  | (with_reducible apply rd_iTup)
  | (with_reducible apply rd_for)
  | (with_reducible apply rd_rng1)
  | (with_reducible apply rd_rng2)
  | ((with_reducible apply rd_rng1e); (focus omega); (focus omega))
  | ((with_reducible apply rd_rng2e); (focus omega))
  | (with_reducible apply rd_gcons)
  | (with_reducible apply rd_gnil)
  | (with_reducible apply rd_retN)
  | (with_reducible apply g_eqI)
  | (with_reducible apply g_eqS)
  | (with_reducible apply g_neI)
  | (with_reducible apply g_neS)
  | (with_reducible apply g_neB)
  | (with_reducible apply rd_xf)
  | (with_reducible apply rd_raiseE)
  | (with_reducible apply rd_callS)
  | (with_reducible apply u_inD)
  | (with_reducible apply u_notInD)
  | (with_reducible apply u_inS)
  | (with_reducible apply u_notInS)
  | (with_reducible apply rd_iSeq)
  | ((with_reducible apply rd_seqL); (focus first | assumption | exact SqL.of (by assumption) | exact SqL.of upd_same))
  | ((with_reducible apply rd_seqT); (focus first | assumption | exact SqT.of (by assumption) | exact SqT.of upd_same))
  | (with_reducible apply rd_istr)
  | (with_reducible apply rd_istrE)
  | ((with_reducible apply u_isi); (focus (first | exact Or.inl rfl | exact Or.inr (Or.inl rfl) | exact Or.inr (Or.inr (Or.inl rfl)) | exact Or.inr (Or.inr (Or.inr rfl)))); (focus first | assumption | exact Rp.int _ | exact Rp.str _))
  | ((with_reducible apply rd_itL); (focus first | assumption | exact SqL.of (by assumption) | exact SqL.of upd_same))
  | ((with_reducible apply rd_itT); (focus first | assumption | exact SqT.of (by assumption) | exact SqT.of upd_same))
  | (with_reducible apply rd_lc)
  | (with_reducible apply rd_yes)
  | ((with_reducible apply u_pow); (focus (exact ⟨by decide, by decide, by decide⟩)))
  | (with_reducible apply u_mul; focus exact Or.inr cm)
  | (with_reducible apply rd_par3)
  | (with_reducible apply rd_par3_end)
  | ((with_reducible apply rd_aug); exact rfl)
  | (with_reducible apply rd_ipI)
  | (with_reducible apply rd_dnew)
  | (with_reducible apply rd_din)
  | (with_reducible apply rd_dget)
  | (with_reducible apply rd_dput)
  | (with_reducible apply rd_disp1)
  | (with_reducible apply rd_sl)
  | (with_reducible apply rd_part)
  | (with_reducible apply rd_partI)
  | (with_reducible apply rd_nopart)
  | (with_reducible apply iteT)
  | (with_reducible apply iteF))
local macro_rules | `(tactic| walk_at "go") => `(tactic| repeat (walk_at "st"))
local macro_rules | `(tactic| walk_at "sp") => `(tactic| (first | refine rd_split (fun c => ?_) (fun c => ?_) | refine rd_splitN (fun c => ?_) (fun c => ?_) | refine rd_splitB (fun c => ?_) (fun c => ?_)))
local macro_rules | `(tactic| walk_at "nx") => `(tactic| repeat (first | (with_reducible apply iteF) | (with_reducible apply iteT) | (with_reducible apply rd_next)))

section
variable {P : Program} {w : World} {K : PySem.W.Frag} {mg : Str → Option Value} {base : Heap}
theorem mk0 {H : Hp} {op : Str} {t q p : Addr} {tv : List V} {td : List PyData} (h1 : SqT K H t tv) (h2 : Rps K H tv td) (h3 : SqT K H q []) (hp : H p = none) : Rp K (upd H p (.tup [.str op, .ref t, .ref q])) (.ref p) (Jn.mk op td []).py := mkJ h1 h2 h3 (by simp only [Jn.pys]; exact .nil) hp
theorem mk1 {H : Hp} {op : Str} {t q p : Addr} {tv : List V} {td : List PyData} {u : V} {j : Jn} (h1 : SqT K H t tv) (h2 : Rps K H tv td) (h3 : SqT K H q [u]) (h4 : Rp K H u j.py) (hp : H p = none) : Rp K (upd H p (.tup [.str op, .ref t, .ref q])) (.ref p) (Jn.mk op td [j]).py := mkJ h1 h2 h3 (by rw [pys1]; exact .one h4) hp
theorem mk2 {H : Hp} {op : Str} {t q p : Addr} {tv : List V} {td : List PyData} {u x : V} {j l : Jn} (h1 : SqT K H t tv) (h2 : Rps K H tv td) (h3 : SqT K H q [u, x]) (h4 : Rp K H u j.py) (h5 : Rp K H x l.py) (hp : H p = none) : Rp K (upd H p (.tup [.str op, .ref t, .ref q])) (.ref p) (Jn.mk op td [j, l]).py := mkJ h1 h2 h3 (by rw [pys2]; exact .cons h4 (.one h5)) hp
/-- a program that fits and its size, put side by side -/
theorem mkTr {ks : Nat → Int} {H : Hp} {p : Addr} {u : V} {j : Jn} {s : Int} {c : Nat} (h1 : Rp K H u j.py) (g : Gd ks j s) (e : j.cnt = c) (hp : H p = none) : Tr K ks (upd H p (.tup [u, .int s])) (.ref p) c :=
  ⟨p, u, j, s, rfl, SqT.of upd_same, h1.mono (Ext.new hp) _ _, g, e⟩
abbrev s_law_figure : Stmt := top 60
theorem sc_law_figure : FnScope ["source"] ["source"] (defScope s_law_figure) := ⟨rfl, rfl, rfl, by decide +kernel, rfl, by decide +kernel, by decide +kernel⟩
def spFig : Sp := fun vs H Q _ => ∃ (a : Addr), vs = [.ref a] ∧ Src H a ∧ ∀ (H' : Hp) (r : Int), SB a H H' → Src H' a → 0 ≤ r → r ≤ 1000002 → Q (.int r) H'
theorem use_fig {a : Addr} {H : Hp} {Q : VK} {E : XK} (h : Src H a) (q : ∀ (H' : Hp) (r : Int), SB a H H' → Src H' a → 0 ≤ r → r ≤ 1000002 → Q (.int r) H') : spFig [.ref a] H Q E := ⟨a, rfl, h, q⟩
theorem has_figure (O : OwnF K mg "_law_figure" s_law_figure) (h_law_take : HasF P w K mg base CX0 1 "_law_take" ["source", "top"] spTake) (h_law_one : HasF P w K mg base CX0 2 "_law_one" ["source", "things"] (spOne K)) : HasF P w K mg base CX0 3 "_law_figure" ["source"] spFig := by
  refine has0 O sc_law_figure (fun _ _ _ _ _ _ us hl => match us, hl with | [_], _ => rfl) (fun vs H Q E h => ?_) (fun f cdv A outer s_ H vs Q E hr h => ?_)
  · obtain ⟨a, rfl, _⟩ := h
    rfl
  obtain ⟨a, rfl, hS, q⟩ := h
  refine ⟨_, (pss_one (ps_ret (pe_callH h_law_one (hr.mono (by first | decide | omega)) (by rfl) pass0 (pa_cons (pv 0) (pa_cons (pe_lst (pa_cons (pe_callH h_law_take (hr.mono (by first | decide | omega)) (by rfl) pass0 (pa_cons (pv 0) (pa_cons pe_int pa_nil))) (pa_cons (pe_callH h_law_take (hr.mono (by first | decide | omega)) (by rfl) pass0 (pa_cons (pv 0) (pa_cons pe_int pa_nil))) (pa_cons (pe_op subU pe_int (pe_callH h_law_take (hr.mono (by first | decide | omega)) (by rfl) pass0 (pa_cons (pv 0) (pa_cons pe_int pa_nil)))) (pa_cons (pe_callH h_law_take (hr.mono (by first | decide | omega)) (by rfl) pass0 (pa_cons (pv 0) (pa_cons pe_int pa_nil))) pa_nil))))) pa_nil))))), ?_⟩
  refine st0 [some (.ref a)] rfl ?_
  walk_at "go"
  refine use_take hS (by omega) (by omega) fun H1 r1 s1 hS1 a1 b1 => ?_
  walk_at "go"
  refine use_take hS1 (by omega) (by omega) fun H2 r2 s2 hS2 a2 b2 => ?_
  walk_at "go"
  refine use_take hS2 (by omega) (by omega) fun H3 r3 s3 hS3 a3 b3 => ?_
  walk_at "go"
  refine use_take hS3 (by omega) (by omega) fun H4 r4 s4 hS4 a4 b4 => ?_
  walk_at "go"
  refine ⟨lk rfl, fun p hp => ?_⟩
  walk_at "go"
  refine use_one (xs := ([r1, r2, 1000002 - r3, r4] : List Int).map V.int) (hS4.new hp) (SqL.of upd_same) (hS4.ne hp) (by simp) (by simp) fun H5 v s5 hS5 hv => ?_
  obtain ⟨n, hn, rfl⟩ := List.mem_map.mp hv
  simp only [List.mem_cons, List.not_mem_nil, or_false] at hn
  exact q H5 n (s1.trans (s2.trans (s3.trans ((s4.new hp).trans s5)))) hS5 (by omega) (by omega)
abbrev s_law_leaf : Stmt := top 61
theorem sc_law_leaf : FnScope ["source", "kinds", "at", "many", "turn"] ["source", "kinds"] (defScope s_law_leaf) := ⟨rfl, rfl, rfl, by decide +kernel, rfl, by decide +kernel, by decide +kernel⟩
/-- three sizes in a list -/
def Kin (K : PySem.W.Frag) (ks : Nat → Int) (H : Hp) (ak : Addr) : Prop := H ak = some (.lst [.int (ks 0), .int (ks 1), .int (ks 2)])
def spLf (K : PySem.W.Frag) : Sp := fun vs H Q _ => ∃ (a ak : Addr) (ks : Nat → Int), vs = [.ref a, .ref ak] ∧ Src H a ∧ Kin K ks H ak ∧ ak ≠ a ∧ (∀ i, 1 ≤ ks i ∧ ks i ≤ 64) ∧ ∀ (H' : Hp) (v : V), SB a H H' → Src H' a → Tr K ks H' v 1 → Q v H'
theorem use_lf {K : PySem.W.Frag} {a ak : Addr} {ks : Nat → Int} {H : Hp} {Q : VK} {E : XK} (h : Src H a) (hk : Kin K ks H ak) (n : ak ≠ a) (h1 : ∀ i, 1 ≤ ks i ∧ ks i ≤ 64) (q : ∀ (H' : Hp) (v : V), SB a H H' → Src H' a → Tr K ks H' v 1 → Q v H') : spLf K [.ref a, .ref ak] H Q E := ⟨a, ak, ks, rfl, h, hk, n, h1, q⟩
theorem has_leaf (O : OwnF K mg "_law_leaf" s_law_leaf) (B : Bl mg) (h_law_take : HasF P w K mg base CX0 1 "_law_take" ["source", "top"] spTake) (h_law_figure : HasF P w K mg base CX0 3 "_law_figure" ["source"] spFig) : HasF P w K mg base CX0 4 "_law_leaf" ["source", "kinds"] (spLf K) := by
  refine has0 O sc_law_leaf (fun _ _ _ _ _ _ us hl => match us, hl with | [_, _], _ => rfl) (fun vs H Q E h => ?_) (fun f cdv A outer s_ H vs Q E hr h => ?_)
  · obtain ⟨a, ak, ks, rfl, _⟩ := h
    rfl
  obtain ⟨a, ak, ks, rfl, hS, hk, nk, hks, q⟩ := h
  refine ⟨_, (pss_cons (ps_if (pt_cmpR (kEqG K (hU hr)) (pe_callH h_law_take (hr.mono (by first | decide | omega)) (by rfl) pass0 (pa_cons (pv 0) (pa_cons pe_int pa_nil))) pe_int (nomark _)) (pss_cons (ps_set (i := 2) sc_law_leaf.nd rfl (by first | exact Or.inl rfl | exact Or.inr rfl) (pe_callH h_law_take (hr.mono (by first | decide | omega)) (by rfl) pass0 (pa_cons (pv 0) (pa_cons pe_int pa_nil)))) (pss_one (ps_ret (pe_tup (pa_cons (pe_tup (pa_cons pe_str (pa_cons (pe_tup (pa_cons (pe_ix (kIx K) (pe_tup (pa_cons pe_str (pa_cons pe_str (pa_cons pe_str pa_nil)))) (pv 2) (fun _ _ => rfl)) (pa_cons (pe_ix (kIx K) (pv 1) (pv 2) (fun _ _ => rfl)) pa_nil))) (pa_cons (pe_tup pa_nil) pa_nil)))) (pa_cons (pe_ix (kIx K) (pv 1) (pv 2) (fun _ _ => rfl)) pa_nil)))))) pss_nil) (pss_cons (ps_set (i := 3) sc_law_leaf.nd rfl (by first | exact Or.inl rfl | exact Or.inr rfl) (pe_op (kAdd K) pe_int (pe_callH h_law_take (hr.mono (by first | decide | omega)) (by rfl) pass0 (pa_cons (pv 0) (pa_cons pe_int pa_nil))))) (pss_one (ps_ret (pe_tup (pa_cons (pe_tup (pa_cons pe_str (pa_cons (pe_callTy (kTup K) (by rfl) B.tuple (by decide +kernel) (pa_cons (pe_lc (own := [("turn", 4)]) (g := gName 4) (tt := tYes) rfl sc_law_leaf.nd (pi_range1 (by rfl) B.range (pa_cons (pv 3) pa_nil)) (blkOk_by (own := [("turn", 4)]) (N := ["source", "kinds", "at", "many", "turn"]) (sc := defScope s_law_leaf) (by decide +kernel)) (fun _ _ _ _ _ => (pg_name (i := 4) sc_law_leaf.nd rfl (by first | exact Or.inl rfl | exact Or.inr rfl))) (fun _ _ _ _ _ => pts_nil) (fun _ _ _ _ _ => (pe_callH h_law_figure (hr.mono (by first | decide | omega)) (by rfl) pass0 (pa_cons (pv 0) pa_nil)))) pa_nil)) (pa_cons (pe_tup pa_nil) pa_nil)))) (pa_cons (pv 3) pa_nil))))))), ?_⟩
  refine st0 [some (.ref a), some (.ref ak), none, none, none] rfl ?_
  walk_at "go"
  refine use_take hS (by omega) (by omega) fun H1 r1 s1 hS1 a1 b1 => ?_
  have hk1 : Kin K ks H1 ak := s1 _ _ nk hk
  walk_at "go"
  refine rd_split (fun c => ?_) (fun c => ?_)
  · walk_at "go"
    refine use_take hS1 (by omega) (by omega) fun H2 at_ s2 hS2 a2 b2 => ?_
    have hk2 : Kin K ks H2 ak := s2 _ _ nk hk1
    obtain ⟨i, rfl, hi⟩ : ∃ i : Nat, at_ = i ∧ i < 3 := ⟨at_.toNat, by omega, by omega⟩
    walk_at "go"
    refine ⟨lk rfl, fun p0 hp0 => ?_⟩
    have e1 : atI [V.str (Str.ofString "a"), .str (Str.ofString "b"), .str (Str.ofString "c")] (i : Int) = some (.str (abc i)) := by
      match i, hi with
      | 0, _ => rfl
      | 1, _ => rfl
      | 2, _ => rfl
    have e2 : atI [V.int (ks 0), .int (ks 1), .int (ks 2)] (i : Int) = some (.int (ks i)) := by
      match i, hi with
      | 0, _ => rfl
      | 1, _ => rfl
      | 2, _ => rfl
    walk_at "go"
    refine u_ixT (SqT.of upd_same) e1 ?_
    have hk3 : Kin K ks (upd H2 p0 (.tup [V.str (Str.ofString "a"), .str (Str.ofString "b"), .str (Str.ofString "c")])) ak := same_new hp0 _ _ _ hk2
    have sA := (s1.trans s2).new (o := .tup [V.str (Str.ofString "a"), .str (Str.ofString "b"), .str (Str.ofString "c")]) hp0
    have hS3 := hS2.new (o := .tup [V.str (Str.ofString "a"), .str (Str.ofString "b"), .str (Str.ofString "c")]) hp0
    generalize upd H2 p0 (.tup [V.str (Str.ofString "a"), .str (Str.ofString "b"), .str (Str.ofString "c")]) = H3 at *
    walk_at "go"
    refine u_ixL (SqL.of hk3) e2 ?_
    walk_at "go"
    refine ⟨lk rfl, fun t ht => ?_⟩
    walk_at "go"
    refine ⟨lk rfl, fun t2 ht2 => ?_⟩
    walk_at "go"
    refine ⟨lk rfl, fun t3 ht3 => ?_⟩
    have hk6 := Same.new (Same.new (same_new ht (.tup [.str (abc i), .int (ks i)])) (o := .tup []) ht2) (o := .tup [.str (Str.ofString "in"), .ref t, .ref t2]) ht3 _ _ hk3
    walk_at "go"
    refine u_ixL (SqL.of hk6) e2 ?_
    walk_at "go"
    refine ⟨lk rfl, fun t4 ht4 => ?_⟩
    have r1 := mk0 (op := Str.ofString "in") ((Ext.new (K := K) (o := .tup []) ht2) _ _ (SqT.of (upd_same (H := H3) (a := t) (o := .tup [.str (abc i), .int (ks i)])))) (.cons (.str (abc i)) (.one (.int (ks i)))) (SqT.of upd_same) ht3
    exact q _ _ ((((sA.new ht).new ht2).new ht3).new ht4) ((((hS3.new ht).new ht2).new ht3).new ht4) (mkTr r1 (.inp i (Nat.lt_succ_of_lt hi) (hks i).1 (hks i).2) (by simp [Jn.cnt, Jn.cnts]) ht4)
  · walk_at "go"
    refine use_take hS1 (by omega) (by omega) fun H2 m s2 hS2 a2 b2 => ?_
    walk_at "go"
    intro D hD
    have nD := hS2.ne hD
    have s12 := s1.trans s2
    have hDH : H D = none := s12.fresh nD hD
    refine lc_range (lo := 0) (n := (1 + m).toNat) (fun i H' => ∃ ns : List Int, H' D = some (.lst (ns.map V.int)) ∧ ns.length = i ∧ (∀ n ∈ ns, 0 ≤ n ∧ n ≤ 1000002) ∧ SB a H H' ∧ Src H' a) ⟨[], upd_same, rfl, (fun _ z => nomatch z), s12.new hD, hS2.new hD⟩ ?_ ?_
    · rintro i H' hi ⟨ns, g1, g2, gb, g3, g4⟩
      walk_at "go"
      refine ⟨rfl, ?_⟩
      walk_at "go"
      refine use_fig g4 fun H3 r s3 hS3 r0 r1 => ?_
      have g5 := s3 _ _ nD g1
      refine ⟨_, g5, ?_, ns ++ [r], ?_, ?_, fun n hn => ?_, (g3.trans s3).upd_new hDH, hS3.set nD⟩
      · rw [List.length_map, g2]; exact ls (by omega)
      · rw [upd_same, List.map_append] <;> rfl
      · rw [List.length_append, g2] <;> rfl
      · rcases List.mem_append.mp hn with h | h
        · exact gb n h
        · rw [show n = r by simpa using h]; exact ⟨r0, r1⟩
    · rintro H3 ⟨ns, g1, g2, gb, g3, g4⟩
      walk_at "go"
      refine u_tupL (SqL.of g1) fun t ht => ?_
      walk_at "go"
      refine ⟨lk rfl, fun t2 ht2 => ?_⟩
      walk_at "go"
      refine ⟨lk rfl, fun t3 ht3 => ?_⟩
      walk_at "go"
      refine ⟨lk rfl, fun t4 ht4 => ?_⟩
      have r1 := mk0 (op := Str.ofString "row") ((Ext.new (K := K) (o := .tup []) ht2) _ _ (SqT.of (upd_same (H := H3) (a := t) (o := .tup (ns.map V.int))))) (Rps.ints ns) (SqT.of upd_same) ht3
      have em : 1 + m = (ns.length : Int) := by omega
      rw [em]
      exact q _ _ ((((g3.new ht).new ht2).new ht3).new ht4) ((((g4.new ht).new ht2).new ht3).new ht4) (mkTr r1 (.row ns (by omega) (by omega) gb) (by simp [Jn.cnt, Jn.cnts]) ht4)
end
end Mine

/-! ### G2 -/
namespace Mine
open PySem PySem.Spec L2
local macro_rules | `(tactic| walk_at "st") => `(tactic| first
  | ((with_reducible apply rd_var); exact rfl)
  | (with_reducible apply rd_c)
  | (with_reducible apply rd_seq)
  | (with_reducible apply rd_asg)
  | (with_reducible apply rd_gname)
  | (with_reducible apply rd_op)
  | (with_reducible apply rd_cb)
  | (with_reducible apply rd_cons)
  | (with_reducible apply rd_nil)
  | (with_reducible apply rd_if)
  | (with_reducible apply rd_test)
  | (with_reducible apply rd_bl)
  | (with_reducible apply rd_retE)
  | (with_reducible apply rd_ret)
  | (with_reducible apply rd_call)
  | (with_reducible apply rd_tup)
  | (with_reducible apply rd_lst)
  | (with_reducible apply rd_drop)
  | (with_reducible apply rd_next)
  | (with_reducible apply rd_ife)
  | (with_reducible apply rd_gsub)
  | (with_reducible apply rd_par)
  | (with_reducible apply rd_par_end)
  | (with_reducible apply rd_un)
  | (with_reducible apply rd_and)
  | (with_reducible apply rd_or)
  | (with_reducible apply rd_not)
  | (with_reducible apply rd_andV)
  | (with_reducible apply rd_orV)
  | (with_reducible apply rd_notV)
  | (with_reducible apply rd_chain)
  | (with_reducible apply rd_tB)
  | (with_reducible apply rd_brk)
  | (with_reducible apply rd_ct)
  | (with_reducible apply u_add)
  | (with_reducible apply u_sub)
  | (with_reducible apply u_lt)
  | (with_reducible apply u_le)
  | (with_reducible apply u_gt)
  | (with_reducible apply u_ge)
  | (with_reducible apply u_eqI)
  | (with_reducible apply u_eqS)
  | (with_reducible apply u_neI)
  | (with_reducible apply u_int)
  | (with_reducible apply u_intB)
  | (with_reducible apply u_max)
  | (with_reducible apply u_min)
  | (with_reducible apply u_neg)
  | ((with_reducible apply u_mod); focus first | assumption | decide | omega)
  | ((with_reducible apply u_div); focus first | decide | omega | (constructor <;> first | assumption | omega))
  | ((with_reducible apply u_mul); focus first | exact Or.inl (by omega) | exact Or.inr (by omega) | exact Or.inl (by decide) | exact Or.inr (by decide))
  | ((with_reducible apply u_ixL); (focus (first | assumption | exact SqL.of (by assumption) | exact SqL.of upd_same)); exact rfl)
  | ((with_reducible apply u_lenL); focus (first | assumption | exact SqL.of (by assumption) | exact SqL.of upd_same))
  | ((with_reducible apply u_lenT); focus (first | assumption | exact SqT.of (by assumption) | exact SqT.of upd_same))
  | ((with_reducible apply u_setL); (focus (first | assumption | exact upd_same)); exact rfl)
  | (with_reducible apply rd_chain3)
  | (with_reducible apply rd_tru)
  | (with_reducible apply rd_truB)
  | ((with_reducible apply rd_truL); focus (first | assumption | exact SqL.of (by assumption) | exact SqL.of upd_same))
  | (with_reducible apply rd_bm)
  | (with_reducible apply rd_bm0)
  | ((with_reducible apply rd_tyL); focus (first | exact SqL.of (by assumption) | exact SqL.of upd_same))
  | (with_reducible apply u_min3)
  | (with_reducible apply rd_rev)
  | (with_reducible apply rd_iList)
  | (with_reducible apply rd_iTup)
  | (with_reducible apply rd_for)
  | (with_reducible apply rd_rng1)
  | (with_reducible apply rd_rng2)
  | ((with_reducible apply rd_rng1e); (focus omega); (focus omega))
  | ((with_reducible apply rd_rng2e); (focus omega))
  | (with_reducible apply rd_gcons)
  | (with_reducible apply rd_gnil)
  | (with_reducible apply rd_retN)
  | (with_reducible apply g_eqI)
  | (with_reducible apply g_eqS)
  | (with_reducible apply g_neI)
  | (with_reducible apply g_neS)
  | (with_reducible apply g_neB)
  | (with_reducible apply rd_xf)
  | (with_reducible apply rd_raiseE)
  | (with_reducible apply rd_callS)
  | (with_reducible apply u_inD)
  | (with_reducible apply u_notInD)
  | (with_reducible apply u_inS)
  | (with_reducible apply u_notInS)
  | (with_reducible apply rd_iSeq)
  | ((with_reducible apply rd_seqL); (focus first | assumption | exact SqL.of (by assumption) | exact SqL.of upd_same))
  | ((with_reducible apply rd_seqT); (focus first | assumption | exact SqT.of (by assumption) | exact SqT.of upd_same))
  | (with_reducible apply rd_istr)
  | (with_reducible apply rd_istrE)
  | ((with_reducible apply u_isi); (focus (first | exact Or.inl rfl | exact Or.inr (Or.inl rfl) | exact Or.inr (Or.inr (Or.inl rfl)) | exact Or.inr (Or.inr (Or.inr rfl)))); (focus first | assumption | exact Rp.int _ | exact Rp.str _))
  | ((with_reducible apply rd_itL); (focus first | assumption | exact SqL.of (by assumption) | exact SqL.of upd_same))
  | ((with_reducible apply rd_itT); (focus first | assumption | exact SqT.of (by assumption) | exact SqT.of upd_same))
  | (with_reducible apply rd_lc)
  | (with_reducible apply rd_yes)
  | ((with_reducible apply u_pow); (focus (exact ⟨by decide, by decide, by decide⟩)))
  | (with_reducible apply u_mul; focus exact Or.inr cm)
  | (with_reducible apply rd_par3)
  | (with_reducible apply rd_par3_end)
  | ((with_reducible apply rd_aug); exact rfl)
  | (with_reducible apply rd_ipI)
  | (with_reducible apply rd_dnew)
  | (with_reducible apply rd_din)
  | (with_reducible apply rd_dget)
  | (with_reducible apply rd_dput)
  | (with_reducible apply rd_disp1)
  | (with_reducible apply rd_sl)
  | (with_reducible apply rd_part)
  | (with_reducible apply rd_partI)
  | (with_reducible apply rd_nopart)
  | (with_reducible apply iteT)
  | (with_reducible apply iteF))
local macro_rules | `(tactic| walk_at "go") => `(tactic| repeat (walk_at "st"))
local macro_rules | `(tactic| walk_at "sp") => `(tactic| (first | refine rd_split (fun c => ?_) (fun c => ?_) | refine rd_splitN (fun c => ?_) (fun c => ?_) | refine rd_splitB (fun c => ?_) (fun c => ?_)))
local macro_rules | `(tactic| walk_at "nx") => `(tactic| repeat (first | (with_reducible apply iteF) | (with_reducible apply iteT) | (with_reducible apply rd_next)))

section
variable {P : Program} {w : World} {K : PySem.W.Frag} {mg : Str → Option Value} {base : Heap}
abbrev s_law_single : Stmt := top 62
theorem sc_law_single : FnScope ["source", "joint", "many", "way", "op", "j", "i", "times"] ["source", "joint", "many"] (defScope s_law_single) := ⟨rfl, rfl, rfl, by decide +kernel, rfl, by decide +kernel, by decide +kernel⟩
def spSg (K : PySem.W.Frag) : Sp := fun vs H Q _ => ∃ (a : Addr) (u : V) (s : Int) (ks : Nat → Int) (j : Jn), vs = [.ref a, u, .int s] ∧ Src H a ∧ Rp K H u j.py ∧ Gd ks j s ∧ ∀ (H' : Hp) (v : V), SB a H H' → Src H' a → Tr K ks H' v (1 + j.cnt) → Q v H'
theorem use_sg {K : PySem.W.Frag} {a : Addr} {u : V} {s : Int} {ks : Nat → Int} {j : Jn} {H : Hp} {Q : VK} {E : XK} (h : Src H a) (r : Rp K H u j.py) (g : Gd ks j s) (q : ∀ (H' : Hp) (v : V), SB a H H' → Src H' a → Tr K ks H' v (1 + j.cnt) → Q v H') : spSg K [.ref a, u, .int s] H Q E := ⟨a, u, s, ks, j, rfl, h, r, g, q⟩
theorem has_single (O : OwnF K mg "_law_single" s_law_single) (h_law_take : HasF P w K mg base CX0 1 "_law_take" ["source", "top"] spTake) : HasF P w K mg base CX0 2 "_law_single" ["source", "joint", "many"] (spSg K) := by
  refine has0 O sc_law_single (fun _ _ _ _ _ _ us hl => match us, hl with | [_, _, _], _ => rfl) (fun vs H Q E h => ?_) (fun f cdv A outer s_ H vs Q E hr h => ?_)
  · obtain ⟨a, u, s, ks, j, rfl, _⟩ := h
    rfl
  obtain ⟨a, u, s, ks, j, rfl, hS, r, g, q⟩ := h
  have sz := g.sz
  -- a told row, the part, the joint, the pair
  have fin : ∀ (H2 : Hp) (op : Str) (t : Addr) (tv : List V) (td : List PyData) (s2 : Int) (t2 t3 t4 : Addr), SB a H H2 → Src H2 a → SqT K H2 t tv → Rps K H2 tv td → Gd ks (.mk op td [j]) s2 → H2 t2 = none →
      upd H2 t2 (.tup [u]) t3 = none → upd (upd H2 t2 (.tup [u])) t3 (.tup [.str op, .ref t, .ref t2]) t4 = none →
      Q (.ref t4) (upd (upd (upd H2 t2 (.tup [u])) t3 (.tup [.str op, .ref t, .ref t2])) t4 (.tup [.ref t3, .int s2])) := by
    intro H2 op t tv td s2 t2 t3 t4 sb hS2 hT hR g2 ht2 ht3 ht4
    have x2 := Ext.new (K := K) (o := .tup [u]) ht2
    have r1 := mk1 (op := op) (j := j) (u := u) (x2 _ _ hT) (hR.mono x2 _ _) (SqT.of upd_same) ((r.mono (hS.ext sb) _ _).mono x2 _ _) ht3
    exact q _ _ (((sb.new ht2).new ht3).new ht4) (((hS2.new ht2).new ht3).new ht4) (mkTr r1 g2 cnt1 ht4)
  refine ⟨_, (pss_cons (ps_set (i := 3) sc_law_single.nd rfl (by first | exact Or.inl rfl | exact Or.inr rfl) (pe_callH h_law_take (hr.mono (by first | decide | omega)) (by rfl) pass0 (pa_cons (pv 0) (pa_cons pe_int pa_nil)))) (pss_cons (ps_if (pt_cmpR ltU (pv 3) pe_int (nomark _)) (pss_cons (ps_set (i := 4) sc_law_single.nd rfl (by first | exact Or.inl rfl | exact Or.inr rfl) (pe_ix (kIx K) (pe_tup (pa_cons pe_str (pa_cons pe_str (pa_cons pe_str (pa_cons pe_str pa_nil))))) (pv 3) (fun _ _ => rfl))) (pss_one (ps_ret (pe_tup (pa_cons (pe_tup (pa_cons (pv 4) (pa_cons (pe_tup pa_nil) (pa_cons (pe_tup (pa_cons (pv 1) pa_nil)) pa_nil)))) (pa_cons (pe_ifExp (pt_cmpR ltU (pv 3) pe_int (nomark _)) (pv 2) pe_int) pa_nil)))))) pss_nil) (pss_cons (ps_if (pt_cmpR (kEqG K (hU hr)) (pv 3) pe_int (nomark _)) (pss_cons (ps_set (i := 5) sc_law_single.nd rfl (by first | exact Or.inl rfl | exact Or.inr rfl) (pe_op (kAdd K) pe_int (pe_callH h_law_take (hr.mono (by first | decide | omega)) (by rfl) pass0 (pa_cons (pv 0) (pa_cons (pv 2) pa_nil))))) (pss_cons (ps_set (i := 6) sc_law_single.nd rfl (by first | exact Or.inl rfl | exact Or.inr rfl) (pe_callH h_law_take (hr.mono (by first | decide | omega)) (by rfl) pass0 (pa_cons (pv 0) (pa_cons (pv 5) pa_nil)))) (pss_one (ps_ret (pe_tup (pa_cons (pe_tup (pa_cons pe_str (pa_cons (pe_tup (pa_cons (pv 6) (pa_cons (pv 5) pa_nil))) (pa_cons (pe_tup (pa_cons (pv 1) pa_nil)) pa_nil)))) (pa_cons (pe_op subU (pv 5) (pv 6)) pa_nil))))))) pss_nil) (pss_cons (ps_if (PW.pt (pw_and (pt_cmpR (kEqG K (hU hr)) (pv 3) pe_int (nomark _)) (pw_and1 (pt_cmpR leU (pv 2) pe_int (nomark _))))) (pss_cons (ps_set (i := 7) sc_law_single.nd rfl (by first | exact Or.inl rfl | exact Or.inr rfl) (pe_op (kAdd K) pe_int (pe_callH h_law_take (hr.mono (by first | decide | omega)) (by rfl) pass0 (pa_cons (pv 0) (pa_cons pe_int pa_nil))))) (pss_one (ps_ret (pe_tup (pa_cons (pe_tup (pa_cons pe_str (pa_cons (pe_tup (pa_cons (pv 7) pa_nil)) (pa_cons (pe_tup (pa_cons (pv 1) pa_nil)) pa_nil)))) (pa_cons (pe_op (kMul K) (pv 2) (pv 7)) pa_nil)))))) pss_nil) (pss_cons (ps_if (pt_cmpR (kEqG K (hU hr)) (pv 3) pe_int (nomark _)) (pss_one (ps_ret (pe_tup (pa_cons (pe_tup (pa_cons pe_str (pa_cons (pe_tup pa_nil) (pa_cons (pe_tup (pa_cons (pv 1) pa_nil)) pa_nil)))) (pa_cons (pv 2) pa_nil))))) pss_nil) (pss_one (ps_ret (pe_tup (pa_cons (pe_tup (pa_cons pe_str (pa_cons (pe_tup (pa_cons (pe_callH h_law_take (hr.mono (by first | decide | omega)) (by rfl) pass0 (pa_cons (pv 0) (pa_cons pe_int pa_nil))) pa_nil)) (pa_cons (pe_tup (pa_cons (pv 1) pa_nil)) pa_nil)))) (pa_cons (pv 2) pa_nil)))))))))), ?_⟩
  refine st0 [some (.ref a), some u, some (.int s), none, none, none, none, none] rfl ?_
  walk_at "go"
  refine use_take hS (by omega) (by omega) fun H1 way s1 hS1 a1 b1 => ?_
  walk_at "go"
  refine rd_split (fun c => ?_) (fun c => ?_)
  · obtain ⟨op, e1, hop⟩ : ∃ op : Str, atI [V.str (Str.ofString "rev"), .str (Str.ofString "sort"), .str (Str.ofString "sum"), .str (Str.ofString "top")] way = some (.str op) ∧ ((way < 2 ∧ op ∈ opsSame) ∨ (¬ way < 2 ∧ op ∈ opsUnit)) := by
      rcases (by omega : way = 0 ∨ way = 1 ∨ way = 2 ∨ way = 3) with rfl | rfl | rfl | rfl
      · exact ⟨_, rfl, .inl ⟨by omega, by decide +kernel⟩⟩
      · exact ⟨_, rfl, .inl ⟨by omega, by decide +kernel⟩⟩
      · exact ⟨_, rfl, .inr ⟨by omega, by decide +kernel⟩⟩
      · exact ⟨_, rfl, .inr ⟨by omega, by decide +kernel⟩⟩
    walk_at "go"
    refine ⟨lk rfl, fun p0 hp0 => ?_⟩
    walk_at "go"
    refine u_ixT (SqT.of upd_same) e1 ?_
    walk_at "go"
    refine ⟨lk rfl, fun t ht => ?_⟩
    walk_at "go"
    refine ⟨lk rfl, fun t2 ht2 => ?_⟩
    walk_at "go"
    refine ⟨lk rfl, fun t3 ht3 => ?_⟩
    walk_at "go"
    refine rd_split (fun c2 => ?_) (fun c2 => ?_)
    · walk_at "go"
      refine ⟨lk rfl, fun t4 ht4 => ?_⟩
      exact fin _ _ _ _ _ _ _ _ _ ((s1.new hp0).new ht) ((hS1.new hp0).new ht) (SqT.of upd_same) .nil (.same op (hop.resolve_right (fun z => z.1 c2)).2 g) ht2 ht3 ht4
    · walk_at "go"
      refine ⟨lk rfl, fun t4 ht4 => ?_⟩
      exact fin _ _ _ _ _ _ _ _ _ ((s1.new hp0).new ht) ((hS1.new hp0).new ht) (SqT.of upd_same) .nil (.unit op (hop.resolve_left (fun z => c2 z.1)).2 g) ht2 ht3 ht4
  walk_at "go"
  refine rd_split (fun c4 => ?_) (fun c4 => ?_)
  · walk_at "go"
    refine use_take hS1 (by omega) (by omega) fun H2 r2 s2 hS2 a2 b2 => ?_
    walk_at "go"
    refine use_take hS2 (by omega) (by omega) fun H3 r3 s3 hS3 a3 b3 => ?_
    walk_at "go"
    refine ⟨lk rfl, fun t ht => ?_⟩
    walk_at "go"
    refine ⟨lk rfl, fun t2 ht2 => ?_⟩
    walk_at "go"
    refine ⟨lk rfl, fun t3 ht3 => ?_⟩
    walk_at "go"
    refine ⟨lk rfl, fun t4 ht4 => ?_⟩
    exact fin _ _ _ _ _ _ _ _ _ ((s1.trans (s2.trans s3)).new ht) (hS3.new ht) (SqT.of upd_same) (.cons (.int r3) (.one (.int (1 + r2)))) (.part r3 (1 + r2) a3 b3 (by omega) g) ht2 ht3 ht4
  walk_at "go"
  refine rd_split (fun c5 => ?_) (fun c5 => ?_)
  · walk_at "go"
    refine rd_split (fun c8 => ?_) (fun c8 => ?_)
    · walk_at "go"
      refine use_take hS1 (by omega) (by omega) fun H2 r2 s2 hS2 a2 b2 => ?_
      walk_at "go"
      refine ⟨lk rfl, fun t ht => ?_⟩
      walk_at "go"
      refine ⟨lk rfl, fun t2 ht2 => ?_⟩
      walk_at "go"
      refine ⟨lk rfl, fun t3 ht3 => ?_⟩
      walk_at "go"
      refine ⟨lk rfl, fun t4 ht4 => ?_⟩
      have hm : s * (1 + r2) ≤ 64 := by
        have := Int.mul_le_mul (show s ≤ 8 from c8) (show 1 + r2 ≤ 8 by omega) (by omega) (by decide)
        omega
      exact fin _ _ _ _ _ _ _ _ _ ((s1.trans s2).new ht) (hS2.new ht) (SqT.of upd_same) (.one (.int (1 + r2))) (.rep (1 + r2) (by omega) (by omega) hm g) ht2 ht3 ht4
    · walk_at "go"
      refine rd_split (fun c6 => ?_) (fun c6 => ?_)
      · exact absurd c6 (by omega)
      walk_at "go"
      refine use_take hS1 (by omega) (by omega) fun H2 r2 s2 hS2 a2 b2 => ?_
      walk_at "go"
      refine ⟨lk rfl, fun t ht => ?_⟩
      walk_at "go"
      refine ⟨lk rfl, fun t2 ht2 => ?_⟩
      walk_at "go"
      refine ⟨lk rfl, fun t3 ht3 => ?_⟩
      walk_at "go"
      refine ⟨lk rfl, fun t4 ht4 => ?_⟩
      exact fin _ _ _ _ _ _ _ _ _ ((s1.trans s2).new ht) (hS2.new ht) (SqT.of upd_same) (.one (.int r2)) (.hold r2 a2 (by omega) g) ht2 ht3 ht4
  · walk_at "go"
    refine rd_split (fun c6 => ?_) (fun c6 => ?_)
    · walk_at "go"
      refine ⟨lk rfl, fun t ht => ?_⟩
      walk_at "go"
      refine ⟨lk rfl, fun t2 ht2 => ?_⟩
      walk_at "go"
      refine ⟨lk rfl, fun t3 ht3 => ?_⟩
      walk_at "go"
      refine ⟨lk rfl, fun t4 ht4 => ?_⟩
      exact fin _ _ _ _ _ _ _ _ _ (s1.new ht) (hS1.new ht) (SqT.of upd_same) .nil (.same _ (by decide +kernel) g) ht2 ht3 ht4
    · walk_at "go"
      refine use_take hS1 (by omega) (by omega) fun H2 r2 s2 hS2 a2 b2 => ?_
      walk_at "go"
      refine ⟨lk rfl, fun t ht => ?_⟩
      walk_at "go"
      refine ⟨lk rfl, fun t2 ht2 => ?_⟩
      walk_at "go"
      refine ⟨lk rfl, fun t3 ht3 => ?_⟩
      walk_at "go"
      refine ⟨lk rfl, fun t4 ht4 => ?_⟩
      exact fin _ _ _ _ _ _ _ _ _ ((s1.trans s2).new ht) (hS2.new ht) (SqT.of upd_same) (.one (.int r2)) (.hold r2 a2 (by omega) g) ht2 ht3 ht4
end
end Mine

/-! ### G3 -/
namespace Mine
open PySem PySem.Spec L2
local macro_rules | `(tactic| walk_at "st") => `(tactic| first
  | ((with_reducible apply rd_var); exact rfl)
  | (with_reducible apply rd_c)
  | (with_reducible apply rd_seq)
  | (with_reducible apply rd_asg)
  | (with_reducible apply rd_gname)
  | (with_reducible apply rd_op)
  | (with_reducible apply rd_cb)
  | (with_reducible apply rd_cons)
  | (with_reducible apply rd_nil)
  | (with_reducible apply rd_if)
  | (with_reducible apply rd_test)
  | (with_reducible apply rd_bl)
  | (with_reducible apply rd_retE)
  | (with_reducible apply rd_ret)
  | (with_reducible apply rd_call)
  | (with_reducible apply rd_tup)
  | (with_reducible apply rd_lst)
  | (with_reducible apply rd_drop)
  | (with_reducible apply rd_next)
  | (with_reducible apply rd_ife)
  | (with_reducible apply rd_gsub)
  | (with_reducible apply rd_par)
  | (with_reducible apply rd_par_end)
  | (with_reducible apply rd_un)
  | (with_reducible apply rd_and)
  | (with_reducible apply rd_or)
  | (with_reducible apply rd_not)
  | (with_reducible apply rd_andV)
  | (with_reducible apply rd_orV)
  | (with_reducible apply rd_notV)
  | (with_reducible apply rd_chain)
  | (with_reducible apply rd_tB)
  | (with_reducible apply rd_brk)
  | (with_reducible apply rd_ct)
  | (with_reducible apply u_add)
  | (with_reducible apply u_sub)
  | (with_reducible apply u_lt)
  | (with_reducible apply u_le)
  | (with_reducible apply u_gt)
  | (with_reducible apply u_ge)
  | (with_reducible apply u_eqI)
  | (with_reducible apply u_eqS)
  | (with_reducible apply u_neI)
  | (with_reducible apply u_int)
  | (with_reducible apply u_intB)
  | (with_reducible apply u_max)
  | (with_reducible apply u_min)
  | (with_reducible apply u_neg)
  | ((with_reducible apply u_mod); focus first | assumption | decide | omega)
  | ((with_reducible apply u_div); focus first | decide | omega | (constructor <;> first | assumption | omega))
  | ((with_reducible apply u_mul); focus first | exact Or.inl (by omega) | exact Or.inr (by omega) | exact Or.inl (by decide) | exact Or.inr (by decide))
  | ((with_reducible apply u_ixL); (focus (first | assumption | exact SqL.of (by assumption) | exact SqL.of upd_same)); exact rfl)
  | ((with_reducible apply u_lenL); focus (first | assumption | exact SqL.of (by assumption) | exact SqL.of upd_same))
  | ((with_reducible apply u_lenT); focus (first | assumption | exact SqT.of (by assumption) | exact SqT.of upd_same))
  | ((with_reducible apply u_setL); (focus (first | assumption | exact upd_same)); exact rfl)
  | (with_reducible apply rd_chain3)
  | (with_reducible apply rd_tru)
  | (with_reducible apply rd_truB)
  | ((with_reducible apply rd_truL); focus (first | assumption | exact SqL.of (by assumption) | exact SqL.of upd_same))
  | (with_reducible apply rd_bm)
  | (with_reducible apply rd_bm0)
  | ((with_reducible apply rd_tyL); focus (first | exact SqL.of (by assumption) | exact SqL.of upd_same))
  | (with_reducible apply u_min3)
  | (with_reducible apply rd_rev)
  | (with_reducible apply rd_iList)
  | (with_reducible apply rd_iTup)
  | (with_reducible apply rd_for)
  | (with_reducible apply rd_rng1)
  | (with_reducible apply rd_rng2)
  | ((with_reducible apply rd_rng1e); (focus omega); (focus omega))
  | ((with_reducible apply rd_rng2e); (focus omega))
  | (with_reducible apply rd_gcons)
  | (with_reducible apply rd_gnil)
  | (with_reducible apply rd_retN)
  | (with_reducible apply g_eqI)
  | (with_reducible apply g_eqS)
  | (with_reducible apply g_neI)
  | (with_reducible apply g_neS)
  | (with_reducible apply g_neB)
  | (with_reducible apply rd_xf)
  | (with_reducible apply rd_raiseE)
  | (with_reducible apply rd_callS)
  | (with_reducible apply u_inD)
  | (with_reducible apply u_notInD)
  | (with_reducible apply u_inS)
  | (with_reducible apply u_notInS)
  | (with_reducible apply rd_iSeq)
  | ((with_reducible apply rd_seqL); (focus first | assumption | exact SqL.of (by assumption) | exact SqL.of upd_same))
  | ((with_reducible apply rd_seqT); (focus first | assumption | exact SqT.of (by assumption) | exact SqT.of upd_same))
  | (with_reducible apply rd_istr)
  | (with_reducible apply rd_istrE)
  | ((with_reducible apply u_isi); (focus (first | exact Or.inl rfl | exact Or.inr (Or.inl rfl) | exact Or.inr (Or.inr (Or.inl rfl)) | exact Or.inr (Or.inr (Or.inr rfl)))); (focus first | assumption | exact Rp.int _ | exact Rp.str _))
  | ((with_reducible apply rd_itL); (focus first | assumption | exact SqL.of (by assumption) | exact SqL.of upd_same))
  | ((with_reducible apply rd_itT); (focus first | assumption | exact SqT.of (by assumption) | exact SqT.of upd_same))
  | (with_reducible apply rd_lc)
  | (with_reducible apply rd_yes)
  | ((with_reducible apply u_pow); (focus (exact ⟨by decide, by decide, by decide⟩)))
  | (with_reducible apply u_mul; focus exact Or.inr cm)
  | (with_reducible apply rd_par3)
  | (with_reducible apply rd_par3_end)
  | ((with_reducible apply rd_aug); exact rfl)
  | (with_reducible apply rd_ipI)
  | (with_reducible apply rd_dnew)
  | (with_reducible apply rd_din)
  | (with_reducible apply rd_dget)
  | (with_reducible apply rd_dput)
  | (with_reducible apply rd_disp1)
  | (with_reducible apply rd_sl)
  | (with_reducible apply rd_part)
  | (with_reducible apply rd_partI)
  | (with_reducible apply rd_nopart)
  | (with_reducible apply iteT)
  | (with_reducible apply iteF))
local macro_rules | `(tactic| walk_at "go") => `(tactic| repeat (walk_at "st"))
local macro_rules | `(tactic| walk_at "sp") => `(tactic| (first | refine rd_split (fun c => ?_) (fun c => ?_) | refine rd_splitN (fun c => ?_) (fun c => ?_) | refine rd_splitB (fun c => ?_) (fun c => ?_)))
local macro_rules | `(tactic| walk_at "nx") => `(tactic| repeat (first | (with_reducible apply iteF) | (with_reducible apply iteT) | (with_reducible apply rd_next)))

section
variable {P : Program} {w : World} {K : PySem.W.Frag} {mg : Str → Option Value} {base : Heap}
abbrev s_law_double : Stmt := top 63
theorem sc_law_double : FnScope ["source", "one", "two", "way", "k", "m", "op"] ["source", "one", "two"] (defScope s_law_double) := ⟨rfl, rfl, rfl, by decide +kernel, rfl, by decide +kernel, by decide +kernel⟩
def spDb (K : PySem.W.Frag) : Sp := fun vs H Q _ => ∃ (a : Addr) (v1 v2 : V) (ks : Nat → Int) (c1 c2 : Nat), vs = [.ref a, v1, v2] ∧ Src H a ∧ Tr K ks H v1 c1 ∧ Tr K ks H v2 c2 ∧ ∀ (H' : Hp) (v : V) (c : Nat), SB a H H' → Src H' a → Tr K ks H' v c → c ≤ c1 + c2 + 3 → Q v H'
theorem use_db {a : Addr} {v1 v2 : V} {ks : Nat → Int} {c1 c2 : Nat} {H : Hp} {Q : VK} {E : XK} (h : Src H a) (h1 : Tr K ks H v1 c1) (h2 : Tr K ks H v2 c2) (q : ∀ (H' : Hp) (v : V) (c : Nat), SB a H H' → Src H' a → Tr K ks H' v c → c ≤ c1 + c2 + 3 → Q v H') : spDb K [.ref a, v1, v2] H Q E := ⟨a, v1, v2, ks, c1, c2, rfl, h, h1, h2, q⟩
theorem has_double (O : OwnF K mg "_law_double" s_law_double) (h_law_take : HasF P w K mg base CX0 1 "_law_take" ["source", "top"] spTake) : HasF P w K mg base CX0 2 "_law_double" ["source", "one", "two"] (spDb K) := by
  refine has0 O sc_law_double (fun _ _ _ _ _ _ us hl => match us, hl with | [_, _, _], _ => rfl) (fun vs H Q E h => ?_) (fun f cdv A outer s_ H vs Q E hr h => ?_)
  · obtain ⟨a, v1, v2, ks, c1, c2, rfl, _⟩ := h
    rfl
  obtain ⟨a, v1, v2, ks, c1, c2, rfl, hS, ⟨p1, u1, j1, k, rfl, hp1, r1, g1, rfl⟩, ⟨p2, u2, j2, m, rfl, hp2, r2, g2, rfl⟩, q⟩ := h
  have z1 := g1.sz
  have z2 := g2.sz
  have km := one_le_mul z1.1 z2.1
  have fin : ∀ (H2 : Hp) (op : Str) (s2 : Int) (t t2 t3 t4 : Addr), SB a H H2 → Src H2 a → Gd ks (.mk op [] [j1, j2]) s2 → H2 t = none → upd H2 t (.tup []) t2 = none →
      upd (upd H2 t (.tup [])) t2 (.tup [u1, u2]) t3 = none → upd (upd (upd H2 t (.tup [])) t2 (.tup [u1, u2])) t3 (.tup [.str op, .ref t, .ref t2]) t4 = none →
      Q (.ref t4) (upd (upd (upd (upd H2 t (.tup [])) t2 (.tup [u1, u2])) t3 (.tup [.str op, .ref t, .ref t2])) t4 (.tup [.ref t3, .int s2])) := by
    intro H2 op s2 t t2 t3 t4 sb hS2 g ht ht2 ht3 ht4
    have x2 := (hS.ext (K := K) (sb.new (o := .tup []) ht)).trans (Ext.new (K := K) (o := .tup [u1, u2]) ht2)
    have rr := mk2 (op := op) (j := j1) (l := j2) (u := u1) (x := u2) (Ext.new (K := K) (o := .tup [u1, u2]) ht2 _ _ (SqT.of (upd_same (H := H2) (a := t) (o := .tup [])))) .nil (SqT.of upd_same) (r1.mono x2 _ _) (r2.mono x2 _ _) ht3
    exact q _ _ _ ((((sb.new ht).new ht2).new ht3).new ht4) ((((hS2.new ht).new ht2).new ht3).new ht4) (mkTr rr g cnt2 ht4) (by omega)
  refine ⟨_, (pss_cons (ps_set (i := 3) sc_law_double.nd rfl (by first | exact Or.inl rfl | exact Or.inr rfl) (pe_callH h_law_take (hr.mono (by first | decide | omega)) (by rfl) pass0 (pa_cons (pv 0) (pa_cons pe_int pa_nil)))) (pss_cons (ps_par (i := 4) (j := 5) (by rfl) sc_law_double.nd rfl rfl (by decide) rfl rfl (pa_cons (pe_ix (kIx K) (pv 1) pe_int (fun _ _ => rfl)) (pa_cons (pe_ix (kIx K) (pv 2) pe_int (fun _ _ => rfl)) pa_nil)) (by rfl)) (pss_cons (ps_if (PW.pt (pw_and (pt_cmpR (kEqG K (hU hr)) (pv 4) (pv 5) (nomark _)) (pw_and1 (pt_cmpR ltU (pv 3) pe_int (nomark _))))) (pss_cons (ps_set (i := 6) sc_law_double.nd rfl (by first | exact Or.inl rfl | exact Or.inr rfl) (pe_ix (kIx K) (pe_tup (pa_cons pe_str (pa_cons pe_str (pa_cons pe_str (pa_cons pe_str pa_nil))))) (pv 3) (fun _ _ => rfl))) (pss_one (ps_ret (pe_tup (pa_cons (pe_tup (pa_cons (pv 6) (pa_cons (pe_tup pa_nil) (pa_cons (pe_tup (pa_cons (pe_ix (kIx K) (pv 1) pe_int (fun _ _ => rfl)) (pa_cons (pe_ix (kIx K) (pv 2) pe_int (fun _ _ => rfl)) pa_nil))) pa_nil)))) (pa_cons (pe_ifExp (pt_cmpR (kEqG K (hU hr)) (pv 3) pe_int (nomark _)) pe_int (pv 4)) pa_nil)))))) pss_nil) (pss_cons (ps_if (PW.pt (pw_and (pt_cmpR ltU (pv 3) pe_int (nomark _)) (pw_and1 (pt_cmpR leU (pe_op (kMul K) (pv 4) (pv 5)) pe_int (nomark _))))) (pss_one (ps_ret (pe_tup (pa_cons (pe_tup (pa_cons pe_str (pa_cons (pe_tup pa_nil) (pa_cons (pe_tup (pa_cons (pe_ix (kIx K) (pv 1) pe_int (fun _ _ => rfl)) (pa_cons (pe_ix (kIx K) (pv 2) pe_int (fun _ _ => rfl)) pa_nil))) pa_nil)))) (pa_cons (pe_op (kMul K) (pv 4) (pv 5)) pa_nil))))) pss_nil) (pss_cons (ps_if (PW.pt (pw_and (pt_cmpR ltU (pv 3) pe_int (nomark _)) (pw_and1 (pt_cmpR leU (pe_op (kAdd K) (pv 4) (pv 5)) pe_int (nomark _))))) (pss_one (ps_ret (pe_tup (pa_cons (pe_tup (pa_cons pe_str (pa_cons (pe_tup pa_nil) (pa_cons (pe_tup (pa_cons (pe_ix (kIx K) (pv 1) pe_int (fun _ _ => rfl)) (pa_cons (pe_ix (kIx K) (pv 2) pe_int (fun _ _ => rfl)) pa_nil))) pa_nil)))) (pa_cons (pe_op subU (pe_op (kAdd K) (pv 4) (pv 5)) pe_int) pa_nil))))) pss_nil) (pss_cons (ps_if (pt_cmpR leU (pe_op (kAdd K) (pv 4) (pv 5)) pe_int (nomark _)) (pss_one (ps_ret (pe_tup (pa_cons (pe_tup (pa_cons pe_str (pa_cons (pe_tup pa_nil) (pa_cons (pe_tup (pa_cons (pe_ix (kIx K) (pv 1) pe_int (fun _ _ => rfl)) (pa_cons (pe_ix (kIx K) (pv 2) pe_int (fun _ _ => rfl)) pa_nil))) pa_nil)))) (pa_cons (pe_op (kAdd K) (pv 4) (pv 5)) pa_nil))))) pss_nil) (pss_one (ps_ret (pe_tup (pa_cons (pe_tup (pa_cons pe_str (pa_cons (pe_tup pa_nil) (pa_cons (pe_tup (pa_cons (pe_tup (pa_cons pe_str (pa_cons (pe_tup pa_nil) (pa_cons (pe_tup (pa_cons (pe_ix (kIx K) (pv 1) pe_int (fun _ _ => rfl)) pa_nil)) pa_nil)))) (pa_cons (pe_tup (pa_cons pe_str (pa_cons (pe_tup pa_nil) (pa_cons (pe_tup (pa_cons (pe_ix (kIx K) (pv 2) pe_int (fun _ _ => rfl)) pa_nil)) pa_nil)))) pa_nil))) pa_nil)))) (pa_cons pe_int pa_nil))))))))))), ?_⟩
  refine st0 [some (.ref a), some (.ref p1), some (.ref p2), none, none, none, none] rfl ?_
  walk_at "go"
  refine use_take hS (by omega) (by omega) fun H1 way s1 hS1 a1 b1 => ?_
  have x1 : Ext K H H1 := hS.ext s1
  have hp1' := x1 _ _ hp1
  have hp2' := x1 _ _ hp2
  walk_at "go"
  refine u_ixT hp1' rfl ?_
  walk_at "go"
  refine u_ixT hp2' rfl ?_
  walk_at "go"
  have hs1 : ∀ (H2 : Hp), Same H1 H2 → SqT K H2 p1 [u1, .int k] ∧ SqT K H2 p2 [u2, .int m] := fun H2 s => ⟨Ext.of_same s _ _ hp1', Ext.of_same s _ _ hp2'⟩
  walk_at "go"
  refine rd_split (fun ck => ?_) (fun ck => ?_)
  · skip
    walk_at "go"
    refine rd_split (fun cw => ?_) (fun cw => ?_)
    · skip
      subst ck
      obtain ⟨op, e1, hop⟩ : ∃ op : Str, atI [V.str (Str.ofString "add"), .str (Str.ofString "sub"), .str (Str.ofString "mul"), .str (Str.ofString "dot")] way = some (.str op) ∧ ((way = 3 ∧ op = "dot") ∨ (¬ way = 3 ∧ op ∈ opsPair)) := by
        rcases (by omega : way = 0 ∨ way = 1 ∨ way = 2 ∨ way = 3) with rfl | rfl | rfl | rfl
        · exact ⟨_, rfl, .inr ⟨by omega, by decide +kernel⟩⟩
        · exact ⟨_, rfl, .inr ⟨by omega, by decide +kernel⟩⟩
        · exact ⟨_, rfl, .inr ⟨by omega, by decide +kernel⟩⟩
        · exact ⟨_, rfl, .inl ⟨rfl, rfl⟩⟩
      walk_at "go"
      refine ⟨lk rfl, fun p0 hp0 => ?_⟩
      walk_at "go"
      refine u_ixT (SqT.of upd_same) e1 ?_
      walk_at "go"
      have s0 := same_new hp0 (.tup [V.str (Str.ofString "add"), .str (Str.ofString "sub"), .str (Str.ofString "mul"), .str (Str.ofString "dot")])
      have sb0 := s1.trans (SB.of_same (a := a) s0)
      have hS0 := hS1.same s0
      have hs0 : ∀ H3, Same (upd H1 p0 (.tup [V.str (Str.ofString "add"), .str (Str.ofString "sub"), .str (Str.ofString "mul"), .str (Str.ofString "dot")])) H3 → SqT K H3 p1 [u1, .int k] ∧ SqT K H3 p2 [u2, .int k] := fun H3 s => hs1 H3 (s0.trans s)
      generalize upd H1 p0 (.tup [V.str (Str.ofString "add"), .str (Str.ofString "sub"), .str (Str.ofString "mul"), .str (Str.ofString "dot")]) = H2 at *
      refine ⟨lk rfl, fun t ht => ?_⟩
      walk_at "go"
      refine u_ixT (hs0 _ (same_new ht (.tup []))).1 rfl ?_
      walk_at "go"
      refine u_ixT (hs0 _ (same_new ht (.tup []))).2 rfl ?_
      walk_at "go"
      refine ⟨lk rfl, fun t2 ht2 => ?_⟩
      walk_at "go"
      refine ⟨lk rfl, fun t3 ht3 => ?_⟩
      walk_at "go"
      refine rd_split (fun c3 => ?_) (fun c3 => ?_)
      · walk_at "go"
        refine ⟨lk rfl, fun t4 ht4 => ?_⟩
        obtain ⟨_, rfl⟩ := hop.resolve_right (fun z => z.1 c3)
        exact fin _ _ _ _ _ _ _ sb0 hS0 (.dot g1 g2) ht ht2 ht3 ht4
      · walk_at "go"
        refine ⟨lk rfl, fun t4 ht4 => ?_⟩
        exact fin _ _ _ _ _ _ _ sb0 hS0 (.pair op (hop.resolve_left (fun z => c3 z.1)).2 g1 g2) ht ht2 ht3 ht4
    · skip
      walk_at "go"
      refine rd_split (fun c5 => ?_) (fun c5 => ?_)
      · skip
        walk_at "go"
        refine rd_split (fun c6 => ?_) (fun c6 => ?_)
        · skip
          walk_at "go"
          refine ⟨lk rfl, fun t ht => ?_⟩
          walk_at "go"
          refine u_ixT (hs1 _ (same_new ht (.tup []))).1 rfl ?_
          walk_at "go"
          refine u_ixT (hs1 _ (same_new ht (.tup []))).2 rfl ?_
          walk_at "go"
          refine ⟨lk rfl, fun t2 ht2 => ?_⟩
          walk_at "go"
          refine ⟨lk rfl, fun t3 ht3 => ?_⟩
          walk_at "go"
          refine ⟨lk rfl, fun t4 ht4 => ?_⟩
          exact fin _ _ _ _ _ _ _ s1 hS1 (.outer (by omega) g1 g2) ht ht2 ht3 ht4
        · skip
          walk_at "go"
          refine rd_split (fun c7 => ?_) (fun c7 => ?_)
          · skip
            walk_at "go"
            refine rd_split (fun c8 => ?_) (fun c8 => ?_)
            · skip
              walk_at "go"
              refine ⟨lk rfl, fun t ht => ?_⟩
              walk_at "go"
              refine u_ixT (hs1 _ (same_new ht (.tup []))).1 rfl ?_
              walk_at "go"
              refine u_ixT (hs1 _ (same_new ht (.tup []))).2 rfl ?_
              walk_at "go"
              refine ⟨lk rfl, fun t2 ht2 => ?_⟩
              walk_at "go"
              refine ⟨lk rfl, fun t3 ht3 => ?_⟩
              walk_at "go"
              refine ⟨lk rfl, fun t4 ht4 => ?_⟩
              exact fin _ _ _ _ _ _ _ s1 hS1 (.blend (by omega) g1 g2) ht ht2 ht3 ht4
            · skip
              walk_at "go"
              refine rd_split (fun c9 => ?_) (fun c9 => ?_)
              · skip
                walk_at "go"
                refine ⟨lk rfl, fun t ht => ?_⟩
                walk_at "go"
                refine u_ixT (hs1 _ (same_new ht (.tup []))).1 rfl ?_
                walk_at "go"
                refine u_ixT (hs1 _ (same_new ht (.tup []))).2 rfl ?_
                walk_at "go"
                refine ⟨lk rfl, fun t2 ht2 => ?_⟩
                walk_at "go"
                refine ⟨lk rfl, fun t3 ht3 => ?_⟩
                walk_at "go"
                refine ⟨lk rfl, fun t4 ht4 => ?_⟩
                exact fin _ _ _ _ _ _ _ s1 hS1 (.cat c9 g1 g2) ht ht2 ht3 ht4
              · skip
                walk_at "go"
                refine ⟨lk rfl, fun t ht => ?_⟩
                have S1 := same_new ht (.tup [])
                have X1 := Ext.new (K := K) (o := .tup []) ht
                have Ft : SqT K (upd H1 t (.tup [])) t [] := SqT.of upd_same
                generalize upd H1 t (.tup []) = B1 at *
                walk_at "go"
                refine ⟨lk rfl, fun ta hta => ?_⟩
                have S2 := Same.new (o := .tup []) S1 hta
                have X2 := Ext.new (K := K) (o := .tup []) hta
                have Fta : SqT K (upd B1 ta (.tup [])) ta [] := SqT.of upd_same
                have Ft := X2 _ _ Ft
                generalize upd B1 ta (.tup []) = B2 at *
                walk_at "go"
                refine u_ixT (hs1 _ S2).1 rfl ?_
                walk_at "go"
                refine ⟨lk rfl, fun tb htb => ?_⟩
                have S3 := Same.new (o := .tup [u1]) S2 htb
                have X3 := Ext.new (K := K) (o := .tup [u1]) htb
                have Ftb : SqT K (upd B2 tb (.tup [u1])) tb [u1] := SqT.of upd_same
                have Ft := X3 _ _ Ft
                have Fta := X3 _ _ Fta
                generalize upd B2 tb (.tup [u1]) = B3 at *
                walk_at "go"
                refine ⟨lk rfl, fun Rc hRc => ?_⟩
                have S4 := Same.new (o := .tup [.str (Str.ofString "top"), .ref ta, .ref tb]) S3 hRc
                have X4 := Ext.new (K := K) (o := .tup [.str (Str.ofString "top"), .ref ta, .ref tb]) hRc
                have FRc := mk1 (op := Str.ofString "top") (j := j1) Fta .nil Ftb (r1.mono ((hS.ext s1).trans (Ext.of_same S3)) _ _) hRc
                have Ft := X4 _ _ Ft
                have Fta := X4 _ _ Fta
                have Ftb := X4 _ _ Ftb
                generalize upd B3 Rc (.tup [.str (Str.ofString "top"), .ref ta, .ref tb]) = B4 at *
                walk_at "go"
                refine ⟨lk rfl, fun td htd => ?_⟩
                have S5 := Same.new (o := .tup []) S4 htd
                have X5 := Ext.new (K := K) (o := .tup []) htd
                have Ftd : SqT K (upd B4 td (.tup [])) td [] := SqT.of upd_same
                have Ft := X5 _ _ Ft
                have Fta := X5 _ _ Fta
                have Ftb := X5 _ _ Ftb
                have FRc := FRc.mono X5 _ _
                generalize upd B4 td (.tup []) = B5 at *
                walk_at "go"
                refine u_ixT (hs1 _ S5).2 rfl ?_
                walk_at "go"
                refine ⟨lk rfl, fun te hte => ?_⟩
                have S6 := Same.new (o := .tup [u2]) S5 hte
                have X6 := Ext.new (K := K) (o := .tup [u2]) hte
                have Fte : SqT K (upd B5 te (.tup [u2])) te [u2] := SqT.of upd_same
                have Ft := X6 _ _ Ft
                have Fta := X6 _ _ Fta
                have Ftb := X6 _ _ Ftb
                have FRc := FRc.mono X6 _ _
                have Ftd := X6 _ _ Ftd
                generalize upd B5 te (.tup [u2]) = B6 at *
                walk_at "go"
                refine ⟨lk rfl, fun Rf hRf => ?_⟩
                have S7 := Same.new (o := .tup [.str (Str.ofString "sum"), .ref td, .ref te]) S6 hRf
                have X7 := Ext.new (K := K) (o := .tup [.str (Str.ofString "sum"), .ref td, .ref te]) hRf
                have FRf := mk1 (op := Str.ofString "sum") (j := j2) Ftd .nil Fte (r2.mono ((hS.ext s1).trans (Ext.of_same S6)) _ _) hRf
                have Ft := X7 _ _ Ft
                have Fta := X7 _ _ Fta
                have Ftb := X7 _ _ Ftb
                have FRc := FRc.mono X7 _ _
                have Ftd := X7 _ _ Ftd
                have Fte := X7 _ _ Fte
                generalize upd B6 Rf (.tup [.str (Str.ofString "sum"), .ref td, .ref te]) = B7 at *
                walk_at "go"
                refine ⟨lk rfl, fun tg htg => ?_⟩
                have S8 := Same.new (o := .tup [.ref Rc, .ref Rf]) S7 htg
                have X8 := Ext.new (K := K) (o := .tup [.ref Rc, .ref Rf]) htg
                have Ftg : SqT K (upd B7 tg (.tup [.ref Rc, .ref Rf])) tg [.ref Rc, .ref Rf] := SqT.of upd_same
                have Ft := X8 _ _ Ft
                have Fta := X8 _ _ Fta
                have Ftb := X8 _ _ Ftb
                have FRc := FRc.mono X8 _ _
                have Ftd := X8 _ _ Ftd
                have Fte := X8 _ _ Fte
                have FRf := FRf.mono X8 _ _
                generalize upd B7 tg (.tup [.ref Rc, .ref Rf]) = B8 at *
                walk_at "go"
                refine ⟨lk rfl, fun Rh hRh => ?_⟩
                have S9 := Same.new (o := .tup [.str (Str.ofString "outer"), .ref t, .ref tg]) S8 hRh
                have X9 := Ext.new (K := K) (o := .tup [.str (Str.ofString "outer"), .ref t, .ref tg]) hRh
                have FRh := mk2 (op := Str.ofString "outer") Ft .nil Ftg FRc FRf hRh
                have Ft := X9 _ _ Ft
                have Fta := X9 _ _ Fta
                have Ftb := X9 _ _ Ftb
                have FRc := FRc.mono X9 _ _
                have Ftd := X9 _ _ Ftd
                have Fte := X9 _ _ Fte
                have FRf := FRf.mono X9 _ _
                have Ftg := X9 _ _ Ftg
                generalize upd B8 Rh (.tup [.str (Str.ofString "outer"), .ref t, .ref tg]) = B9 at *
                walk_at "go"
                refine ⟨lk rfl, fun ti hti => ?_⟩
                exact q _ _ _ ((s1.trans (SB.of_same S9)).new hti) ((hS1.same S9).new hti) (mkTr FRh (show Gd ks _ 1 from .outer (s := 1) (t := 1) (by decide) (.unit _ (by decide +kernel) g1) (.unit _ (by decide +kernel) g2)) (by rw [cnt2, cnt1, cnt1]) hti) (by omega)
          · skip
            walk_at "go"
            refine rd_split (fun c9 => ?_) (fun c9 => ?_)
            · skip
              walk_at "go"
              refine ⟨lk rfl, fun t ht => ?_⟩
              walk_at "go"
              refine u_ixT (hs1 _ (same_new ht (.tup []))).1 rfl ?_
              walk_at "go"
              refine u_ixT (hs1 _ (same_new ht (.tup []))).2 rfl ?_
              walk_at "go"
              refine ⟨lk rfl, fun t2 ht2 => ?_⟩
              walk_at "go"
              refine ⟨lk rfl, fun t3 ht3 => ?_⟩
              walk_at "go"
              refine ⟨lk rfl, fun t4 ht4 => ?_⟩
              exact fin _ _ _ _ _ _ _ s1 hS1 (.cat c9 g1 g2) ht ht2 ht3 ht4
            · skip
              walk_at "go"
              refine ⟨lk rfl, fun t ht => ?_⟩
              have S1 := same_new ht (.tup [])
              have X1 := Ext.new (K := K) (o := .tup []) ht
              have Ft : SqT K (upd H1 t (.tup [])) t [] := SqT.of upd_same
              generalize upd H1 t (.tup []) = B1 at *
              walk_at "go"
              refine ⟨lk rfl, fun ta hta => ?_⟩
              have S2 := Same.new (o := .tup []) S1 hta
              have X2 := Ext.new (K := K) (o := .tup []) hta
              have Fta : SqT K (upd B1 ta (.tup [])) ta [] := SqT.of upd_same
              have Ft := X2 _ _ Ft
              generalize upd B1 ta (.tup []) = B2 at *
              walk_at "go"
              refine u_ixT (hs1 _ S2).1 rfl ?_
              walk_at "go"
              refine ⟨lk rfl, fun tb htb => ?_⟩
              have S3 := Same.new (o := .tup [u1]) S2 htb
              have X3 := Ext.new (K := K) (o := .tup [u1]) htb
              have Ftb : SqT K (upd B2 tb (.tup [u1])) tb [u1] := SqT.of upd_same
              have Ft := X3 _ _ Ft
              have Fta := X3 _ _ Fta
              generalize upd B2 tb (.tup [u1]) = B3 at *
              walk_at "go"
              refine ⟨lk rfl, fun Rc hRc => ?_⟩
              have S4 := Same.new (o := .tup [.str (Str.ofString "top"), .ref ta, .ref tb]) S3 hRc
              have X4 := Ext.new (K := K) (o := .tup [.str (Str.ofString "top"), .ref ta, .ref tb]) hRc
              have FRc := mk1 (op := Str.ofString "top") (j := j1) Fta .nil Ftb (r1.mono ((hS.ext s1).trans (Ext.of_same S3)) _ _) hRc
              have Ft := X4 _ _ Ft
              have Fta := X4 _ _ Fta
              have Ftb := X4 _ _ Ftb
              generalize upd B3 Rc (.tup [.str (Str.ofString "top"), .ref ta, .ref tb]) = B4 at *
              walk_at "go"
              refine ⟨lk rfl, fun td htd => ?_⟩
              have S5 := Same.new (o := .tup []) S4 htd
              have X5 := Ext.new (K := K) (o := .tup []) htd
              have Ftd : SqT K (upd B4 td (.tup [])) td [] := SqT.of upd_same
              have Ft := X5 _ _ Ft
              have Fta := X5 _ _ Fta
              have Ftb := X5 _ _ Ftb
              have FRc := FRc.mono X5 _ _
              generalize upd B4 td (.tup []) = B5 at *
              walk_at "go"
              refine u_ixT (hs1 _ S5).2 rfl ?_
              walk_at "go"
              refine ⟨lk rfl, fun te hte => ?_⟩
              have S6 := Same.new (o := .tup [u2]) S5 hte
              have X6 := Ext.new (K := K) (o := .tup [u2]) hte
              have Fte : SqT K (upd B5 te (.tup [u2])) te [u2] := SqT.of upd_same
              have Ft := X6 _ _ Ft
              have Fta := X6 _ _ Fta
              have Ftb := X6 _ _ Ftb
              have FRc := FRc.mono X6 _ _
              have Ftd := X6 _ _ Ftd
              generalize upd B5 te (.tup [u2]) = B6 at *
              walk_at "go"
              refine ⟨lk rfl, fun Rf hRf => ?_⟩
              have S7 := Same.new (o := .tup [.str (Str.ofString "sum"), .ref td, .ref te]) S6 hRf
              have X7 := Ext.new (K := K) (o := .tup [.str (Str.ofString "sum"), .ref td, .ref te]) hRf
              have FRf := mk1 (op := Str.ofString "sum") (j := j2) Ftd .nil Fte (r2.mono ((hS.ext s1).trans (Ext.of_same S6)) _ _) hRf
              have Ft := X7 _ _ Ft
              have Fta := X7 _ _ Fta
              have Ftb := X7 _ _ Ftb
              have FRc := FRc.mono X7 _ _
              have Ftd := X7 _ _ Ftd
              have Fte := X7 _ _ Fte
              generalize upd B6 Rf (.tup [.str (Str.ofString "sum"), .ref td, .ref te]) = B7 at *
              walk_at "go"
              refine ⟨lk rfl, fun tg htg => ?_⟩
              have S8 := Same.new (o := .tup [.ref Rc, .ref Rf]) S7 htg
              have X8 := Ext.new (K := K) (o := .tup [.ref Rc, .ref Rf]) htg
              have Ftg : SqT K (upd B7 tg (.tup [.ref Rc, .ref Rf])) tg [.ref Rc, .ref Rf] := SqT.of upd_same
              have Ft := X8 _ _ Ft
              have Fta := X8 _ _ Fta
              have Ftb := X8 _ _ Ftb
              have FRc := FRc.mono X8 _ _
              have Ftd := X8 _ _ Ftd
              have Fte := X8 _ _ Fte
              have FRf := FRf.mono X8 _ _
              generalize upd B7 tg (.tup [.ref Rc, .ref Rf]) = B8 at *
              walk_at "go"
              refine ⟨lk rfl, fun Rh hRh => ?_⟩
              have S9 := Same.new (o := .tup [.str (Str.ofString "outer"), .ref t, .ref tg]) S8 hRh
              have X9 := Ext.new (K := K) (o := .tup [.str (Str.ofString "outer"), .ref t, .ref tg]) hRh
              have FRh := mk2 (op := Str.ofString "outer") Ft .nil Ftg FRc FRf hRh
              have Ft := X9 _ _ Ft
              have Fta := X9 _ _ Fta
              have Ftb := X9 _ _ Ftb
              have FRc := FRc.mono X9 _ _
              have Ftd := X9 _ _ Ftd
              have Fte := X9 _ _ Fte
              have FRf := FRf.mono X9 _ _
              have Ftg := X9 _ _ Ftg
              generalize upd B8 Rh (.tup [.str (Str.ofString "outer"), .ref t, .ref tg]) = B9 at *
              walk_at "go"
              refine ⟨lk rfl, fun ti hti => ?_⟩
              exact q _ _ _ ((s1.trans (SB.of_same S9)).new hti) ((hS1.same S9).new hti) (mkTr FRh (show Gd ks _ 1 from .outer (s := 1) (t := 1) (by decide) (.unit _ (by decide +kernel) g1) (.unit _ (by decide +kernel) g2)) (by rw [cnt2, cnt1, cnt1]) hti) (by omega)
      · skip
        walk_at "go"
        refine rd_split (fun c7 => ?_) (fun c7 => ?_)
        · skip
          walk_at "go"
          refine rd_split (fun c8 => ?_) (fun c8 => ?_)
          · skip
            walk_at "go"
            refine ⟨lk rfl, fun t ht => ?_⟩
            walk_at "go"
            refine u_ixT (hs1 _ (same_new ht (.tup []))).1 rfl ?_
            walk_at "go"
            refine u_ixT (hs1 _ (same_new ht (.tup []))).2 rfl ?_
            walk_at "go"
            refine ⟨lk rfl, fun t2 ht2 => ?_⟩
            walk_at "go"
            refine ⟨lk rfl, fun t3 ht3 => ?_⟩
            walk_at "go"
            refine ⟨lk rfl, fun t4 ht4 => ?_⟩
            exact fin _ _ _ _ _ _ _ s1 hS1 (.blend (by omega) g1 g2) ht ht2 ht3 ht4
          · skip
            walk_at "go"
            refine rd_split (fun c9 => ?_) (fun c9 => ?_)
            · skip
              walk_at "go"
              refine ⟨lk rfl, fun t ht => ?_⟩
              walk_at "go"
              refine u_ixT (hs1 _ (same_new ht (.tup []))).1 rfl ?_
              walk_at "go"
              refine u_ixT (hs1 _ (same_new ht (.tup []))).2 rfl ?_
              walk_at "go"
              refine ⟨lk rfl, fun t2 ht2 => ?_⟩
              walk_at "go"
              refine ⟨lk rfl, fun t3 ht3 => ?_⟩
              walk_at "go"
              refine ⟨lk rfl, fun t4 ht4 => ?_⟩
              exact fin _ _ _ _ _ _ _ s1 hS1 (.cat c9 g1 g2) ht ht2 ht3 ht4
            · skip
              walk_at "go"
              refine ⟨lk rfl, fun t ht => ?_⟩
              have S1 := same_new ht (.tup [])
              have X1 := Ext.new (K := K) (o := .tup []) ht
              have Ft : SqT K (upd H1 t (.tup [])) t [] := SqT.of upd_same
              generalize upd H1 t (.tup []) = B1 at *
              walk_at "go"
              refine ⟨lk rfl, fun ta hta => ?_⟩
              have S2 := Same.new (o := .tup []) S1 hta
              have X2 := Ext.new (K := K) (o := .tup []) hta
              have Fta : SqT K (upd B1 ta (.tup [])) ta [] := SqT.of upd_same
              have Ft := X2 _ _ Ft
              generalize upd B1 ta (.tup []) = B2 at *
              walk_at "go"
              refine u_ixT (hs1 _ S2).1 rfl ?_
              walk_at "go"
              refine ⟨lk rfl, fun tb htb => ?_⟩
              have S3 := Same.new (o := .tup [u1]) S2 htb
              have X3 := Ext.new (K := K) (o := .tup [u1]) htb
              have Ftb : SqT K (upd B2 tb (.tup [u1])) tb [u1] := SqT.of upd_same
              have Ft := X3 _ _ Ft
              have Fta := X3 _ _ Fta
              generalize upd B2 tb (.tup [u1]) = B3 at *
              walk_at "go"
              refine ⟨lk rfl, fun Rc hRc => ?_⟩
              have S4 := Same.new (o := .tup [.str (Str.ofString "top"), .ref ta, .ref tb]) S3 hRc
              have X4 := Ext.new (K := K) (o := .tup [.str (Str.ofString "top"), .ref ta, .ref tb]) hRc
              have FRc := mk1 (op := Str.ofString "top") (j := j1) Fta .nil Ftb (r1.mono ((hS.ext s1).trans (Ext.of_same S3)) _ _) hRc
              have Ft := X4 _ _ Ft
              have Fta := X4 _ _ Fta
              have Ftb := X4 _ _ Ftb
              generalize upd B3 Rc (.tup [.str (Str.ofString "top"), .ref ta, .ref tb]) = B4 at *
              walk_at "go"
              refine ⟨lk rfl, fun td htd => ?_⟩
              have S5 := Same.new (o := .tup []) S4 htd
              have X5 := Ext.new (K := K) (o := .tup []) htd
              have Ftd : SqT K (upd B4 td (.tup [])) td [] := SqT.of upd_same
              have Ft := X5 _ _ Ft
              have Fta := X5 _ _ Fta
              have Ftb := X5 _ _ Ftb
              have FRc := FRc.mono X5 _ _
              generalize upd B4 td (.tup []) = B5 at *
              walk_at "go"
              refine u_ixT (hs1 _ S5).2 rfl ?_
              walk_at "go"
              refine ⟨lk rfl, fun te hte => ?_⟩
              have S6 := Same.new (o := .tup [u2]) S5 hte
              have X6 := Ext.new (K := K) (o := .tup [u2]) hte
              have Fte : SqT K (upd B5 te (.tup [u2])) te [u2] := SqT.of upd_same
              have Ft := X6 _ _ Ft
              have Fta := X6 _ _ Fta
              have Ftb := X6 _ _ Ftb
              have FRc := FRc.mono X6 _ _
              have Ftd := X6 _ _ Ftd
              generalize upd B5 te (.tup [u2]) = B6 at *
              walk_at "go"
              refine ⟨lk rfl, fun Rf hRf => ?_⟩
              have S7 := Same.new (o := .tup [.str (Str.ofString "sum"), .ref td, .ref te]) S6 hRf
              have X7 := Ext.new (K := K) (o := .tup [.str (Str.ofString "sum"), .ref td, .ref te]) hRf
              have FRf := mk1 (op := Str.ofString "sum") (j := j2) Ftd .nil Fte (r2.mono ((hS.ext s1).trans (Ext.of_same S6)) _ _) hRf
              have Ft := X7 _ _ Ft
              have Fta := X7 _ _ Fta
              have Ftb := X7 _ _ Ftb
              have FRc := FRc.mono X7 _ _
              have Ftd := X7 _ _ Ftd
              have Fte := X7 _ _ Fte
              generalize upd B6 Rf (.tup [.str (Str.ofString "sum"), .ref td, .ref te]) = B7 at *
              walk_at "go"
              refine ⟨lk rfl, fun tg htg => ?_⟩
              have S8 := Same.new (o := .tup [.ref Rc, .ref Rf]) S7 htg
              have X8 := Ext.new (K := K) (o := .tup [.ref Rc, .ref Rf]) htg
              have Ftg : SqT K (upd B7 tg (.tup [.ref Rc, .ref Rf])) tg [.ref Rc, .ref Rf] := SqT.of upd_same
              have Ft := X8 _ _ Ft
              have Fta := X8 _ _ Fta
              have Ftb := X8 _ _ Ftb
              have FRc := FRc.mono X8 _ _
              have Ftd := X8 _ _ Ftd
              have Fte := X8 _ _ Fte
              have FRf := FRf.mono X8 _ _
              generalize upd B7 tg (.tup [.ref Rc, .ref Rf]) = B8 at *
              walk_at "go"
              refine ⟨lk rfl, fun Rh hRh => ?_⟩
              have S9 := Same.new (o := .tup [.str (Str.ofString "outer"), .ref t, .ref tg]) S8 hRh
              have X9 := Ext.new (K := K) (o := .tup [.str (Str.ofString "outer"), .ref t, .ref tg]) hRh
              have FRh := mk2 (op := Str.ofString "outer") Ft .nil Ftg FRc FRf hRh
              have Ft := X9 _ _ Ft
              have Fta := X9 _ _ Fta
              have Ftb := X9 _ _ Ftb
              have FRc := FRc.mono X9 _ _
              have Ftd := X9 _ _ Ftd
              have Fte := X9 _ _ Fte
              have FRf := FRf.mono X9 _ _
              have Ftg := X9 _ _ Ftg
              generalize upd B8 Rh (.tup [.str (Str.ofString "outer"), .ref t, .ref tg]) = B9 at *
              walk_at "go"
              refine ⟨lk rfl, fun ti hti => ?_⟩
              exact q _ _ _ ((s1.trans (SB.of_same S9)).new hti) ((hS1.same S9).new hti) (mkTr FRh (show Gd ks _ 1 from .outer (s := 1) (t := 1) (by decide) (.unit _ (by decide +kernel) g1) (.unit _ (by decide +kernel) g2)) (by rw [cnt2, cnt1, cnt1]) hti) (by omega)
        · skip
          walk_at "go"
          refine rd_split (fun c9 => ?_) (fun c9 => ?_)
          · skip
            walk_at "go"
            refine ⟨lk rfl, fun t ht => ?_⟩
            walk_at "go"
            refine u_ixT (hs1 _ (same_new ht (.tup []))).1 rfl ?_
            walk_at "go"
            refine u_ixT (hs1 _ (same_new ht (.tup []))).2 rfl ?_
            walk_at "go"
            refine ⟨lk rfl, fun t2 ht2 => ?_⟩
            walk_at "go"
            refine ⟨lk rfl, fun t3 ht3 => ?_⟩
            walk_at "go"
            refine ⟨lk rfl, fun t4 ht4 => ?_⟩
            exact fin _ _ _ _ _ _ _ s1 hS1 (.cat c9 g1 g2) ht ht2 ht3 ht4
          · skip
            walk_at "go"
            refine ⟨lk rfl, fun t ht => ?_⟩
            have S1 := same_new ht (.tup [])
            have X1 := Ext.new (K := K) (o := .tup []) ht
            have Ft : SqT K (upd H1 t (.tup [])) t [] := SqT.of upd_same
            generalize upd H1 t (.tup []) = B1 at *
            walk_at "go"
            refine ⟨lk rfl, fun ta hta => ?_⟩
            have S2 := Same.new (o := .tup []) S1 hta
            have X2 := Ext.new (K := K) (o := .tup []) hta
            have Fta : SqT K (upd B1 ta (.tup [])) ta [] := SqT.of upd_same
            have Ft := X2 _ _ Ft
            generalize upd B1 ta (.tup []) = B2 at *
            walk_at "go"
            refine u_ixT (hs1 _ S2).1 rfl ?_
            walk_at "go"
            refine ⟨lk rfl, fun tb htb => ?_⟩
            have S3 := Same.new (o := .tup [u1]) S2 htb
            have X3 := Ext.new (K := K) (o := .tup [u1]) htb
            have Ftb : SqT K (upd B2 tb (.tup [u1])) tb [u1] := SqT.of upd_same
            have Ft := X3 _ _ Ft
            have Fta := X3 _ _ Fta
            generalize upd B2 tb (.tup [u1]) = B3 at *
            walk_at "go"
            refine ⟨lk rfl, fun Rc hRc => ?_⟩
            have S4 := Same.new (o := .tup [.str (Str.ofString "top"), .ref ta, .ref tb]) S3 hRc
            have X4 := Ext.new (K := K) (o := .tup [.str (Str.ofString "top"), .ref ta, .ref tb]) hRc
            have FRc := mk1 (op := Str.ofString "top") (j := j1) Fta .nil Ftb (r1.mono ((hS.ext s1).trans (Ext.of_same S3)) _ _) hRc
            have Ft := X4 _ _ Ft
            have Fta := X4 _ _ Fta
            have Ftb := X4 _ _ Ftb
            generalize upd B3 Rc (.tup [.str (Str.ofString "top"), .ref ta, .ref tb]) = B4 at *
            walk_at "go"
            refine ⟨lk rfl, fun td htd => ?_⟩
            have S5 := Same.new (o := .tup []) S4 htd
            have X5 := Ext.new (K := K) (o := .tup []) htd
            have Ftd : SqT K (upd B4 td (.tup [])) td [] := SqT.of upd_same
            have Ft := X5 _ _ Ft
            have Fta := X5 _ _ Fta
            have Ftb := X5 _ _ Ftb
            have FRc := FRc.mono X5 _ _
            generalize upd B4 td (.tup []) = B5 at *
            walk_at "go"
            refine u_ixT (hs1 _ S5).2 rfl ?_
            walk_at "go"
            refine ⟨lk rfl, fun te hte => ?_⟩
            have S6 := Same.new (o := .tup [u2]) S5 hte
            have X6 := Ext.new (K := K) (o := .tup [u2]) hte
            have Fte : SqT K (upd B5 te (.tup [u2])) te [u2] := SqT.of upd_same
            have Ft := X6 _ _ Ft
            have Fta := X6 _ _ Fta
            have Ftb := X6 _ _ Ftb
            have FRc := FRc.mono X6 _ _
            have Ftd := X6 _ _ Ftd
            generalize upd B5 te (.tup [u2]) = B6 at *
            walk_at "go"
            refine ⟨lk rfl, fun Rf hRf => ?_⟩
            have S7 := Same.new (o := .tup [.str (Str.ofString "sum"), .ref td, .ref te]) S6 hRf
            have X7 := Ext.new (K := K) (o := .tup [.str (Str.ofString "sum"), .ref td, .ref te]) hRf
            have FRf := mk1 (op := Str.ofString "sum") (j := j2) Ftd .nil Fte (r2.mono ((hS.ext s1).trans (Ext.of_same S6)) _ _) hRf
            have Ft := X7 _ _ Ft
            have Fta := X7 _ _ Fta
            have Ftb := X7 _ _ Ftb
            have FRc := FRc.mono X7 _ _
            have Ftd := X7 _ _ Ftd
            have Fte := X7 _ _ Fte
            generalize upd B6 Rf (.tup [.str (Str.ofString "sum"), .ref td, .ref te]) = B7 at *
            walk_at "go"
            refine ⟨lk rfl, fun tg htg => ?_⟩
            have S8 := Same.new (o := .tup [.ref Rc, .ref Rf]) S7 htg
            have X8 := Ext.new (K := K) (o := .tup [.ref Rc, .ref Rf]) htg
            have Ftg : SqT K (upd B7 tg (.tup [.ref Rc, .ref Rf])) tg [.ref Rc, .ref Rf] := SqT.of upd_same
            have Ft := X8 _ _ Ft
            have Fta := X8 _ _ Fta
            have Ftb := X8 _ _ Ftb
            have FRc := FRc.mono X8 _ _
            have Ftd := X8 _ _ Ftd
            have Fte := X8 _ _ Fte
            have FRf := FRf.mono X8 _ _
            generalize upd B7 tg (.tup [.ref Rc, .ref Rf]) = B8 at *
            walk_at "go"
            refine ⟨lk rfl, fun Rh hRh => ?_⟩
            have S9 := Same.new (o := .tup [.str (Str.ofString "outer"), .ref t, .ref tg]) S8 hRh
            have X9 := Ext.new (K := K) (o := .tup [.str (Str.ofString "outer"), .ref t, .ref tg]) hRh
            have FRh := mk2 (op := Str.ofString "outer") Ft .nil Ftg FRc FRf hRh
            have Ft := X9 _ _ Ft
            have Fta := X9 _ _ Fta
            have Ftb := X9 _ _ Ftb
            have FRc := FRc.mono X9 _ _
            have Ftd := X9 _ _ Ftd
            have Fte := X9 _ _ Fte
            have FRf := FRf.mono X9 _ _
            have Ftg := X9 _ _ Ftg
            generalize upd B8 Rh (.tup [.str (Str.ofString "outer"), .ref t, .ref tg]) = B9 at *
            walk_at "go"
            refine ⟨lk rfl, fun ti hti => ?_⟩
            exact q _ _ _ ((s1.trans (SB.of_same S9)).new hti) ((hS1.same S9).new hti) (mkTr FRh (show Gd ks _ 1 from .outer (s := 1) (t := 1) (by decide) (.unit _ (by decide +kernel) g1) (.unit _ (by decide +kernel) g2)) (by rw [cnt2, cnt1, cnt1]) hti) (by omega)
  · skip
    walk_at "go"
    refine rd_split (fun c5 => ?_) (fun c5 => ?_)
    · skip
      walk_at "go"
      refine rd_split (fun c6 => ?_) (fun c6 => ?_)
      · skip
        walk_at "go"
        refine ⟨lk rfl, fun t ht => ?_⟩
        walk_at "go"
        refine u_ixT (hs1 _ (same_new ht (.tup []))).1 rfl ?_
        walk_at "go"
        refine u_ixT (hs1 _ (same_new ht (.tup []))).2 rfl ?_
        walk_at "go"
        refine ⟨lk rfl, fun t2 ht2 => ?_⟩
        walk_at "go"
        refine ⟨lk rfl, fun t3 ht3 => ?_⟩
        walk_at "go"
        refine ⟨lk rfl, fun t4 ht4 => ?_⟩
        exact fin _ _ _ _ _ _ _ s1 hS1 (.outer (by omega) g1 g2) ht ht2 ht3 ht4
      · skip
        walk_at "go"
        refine rd_split (fun c7 => ?_) (fun c7 => ?_)
        · skip
          walk_at "go"
          refine rd_split (fun c8 => ?_) (fun c8 => ?_)
          · skip
            walk_at "go"
            refine ⟨lk rfl, fun t ht => ?_⟩
            walk_at "go"
            refine u_ixT (hs1 _ (same_new ht (.tup []))).1 rfl ?_
            walk_at "go"
            refine u_ixT (hs1 _ (same_new ht (.tup []))).2 rfl ?_
            walk_at "go"
            refine ⟨lk rfl, fun t2 ht2 => ?_⟩
            walk_at "go"
            refine ⟨lk rfl, fun t3 ht3 => ?_⟩
            walk_at "go"
            refine ⟨lk rfl, fun t4 ht4 => ?_⟩
            exact fin _ _ _ _ _ _ _ s1 hS1 (.blend (by omega) g1 g2) ht ht2 ht3 ht4
          · skip
            walk_at "go"
            refine rd_split (fun c9 => ?_) (fun c9 => ?_)
            · skip
              walk_at "go"
              refine ⟨lk rfl, fun t ht => ?_⟩
              walk_at "go"
              refine u_ixT (hs1 _ (same_new ht (.tup []))).1 rfl ?_
              walk_at "go"
              refine u_ixT (hs1 _ (same_new ht (.tup []))).2 rfl ?_
              walk_at "go"
              refine ⟨lk rfl, fun t2 ht2 => ?_⟩
              walk_at "go"
              refine ⟨lk rfl, fun t3 ht3 => ?_⟩
              walk_at "go"
              refine ⟨lk rfl, fun t4 ht4 => ?_⟩
              exact fin _ _ _ _ _ _ _ s1 hS1 (.cat c9 g1 g2) ht ht2 ht3 ht4
            · skip
              walk_at "go"
              refine ⟨lk rfl, fun t ht => ?_⟩
              have S1 := same_new ht (.tup [])
              have X1 := Ext.new (K := K) (o := .tup []) ht
              have Ft : SqT K (upd H1 t (.tup [])) t [] := SqT.of upd_same
              generalize upd H1 t (.tup []) = B1 at *
              walk_at "go"
              refine ⟨lk rfl, fun ta hta => ?_⟩
              have S2 := Same.new (o := .tup []) S1 hta
              have X2 := Ext.new (K := K) (o := .tup []) hta
              have Fta : SqT K (upd B1 ta (.tup [])) ta [] := SqT.of upd_same
              have Ft := X2 _ _ Ft
              generalize upd B1 ta (.tup []) = B2 at *
              walk_at "go"
              refine u_ixT (hs1 _ S2).1 rfl ?_
              walk_at "go"
              refine ⟨lk rfl, fun tb htb => ?_⟩
              have S3 := Same.new (o := .tup [u1]) S2 htb
              have X3 := Ext.new (K := K) (o := .tup [u1]) htb
              have Ftb : SqT K (upd B2 tb (.tup [u1])) tb [u1] := SqT.of upd_same
              have Ft := X3 _ _ Ft
              have Fta := X3 _ _ Fta
              generalize upd B2 tb (.tup [u1]) = B3 at *
              walk_at "go"
              refine ⟨lk rfl, fun Rc hRc => ?_⟩
              have S4 := Same.new (o := .tup [.str (Str.ofString "top"), .ref ta, .ref tb]) S3 hRc
              have X4 := Ext.new (K := K) (o := .tup [.str (Str.ofString "top"), .ref ta, .ref tb]) hRc
              have FRc := mk1 (op := Str.ofString "top") (j := j1) Fta .nil Ftb (r1.mono ((hS.ext s1).trans (Ext.of_same S3)) _ _) hRc
              have Ft := X4 _ _ Ft
              have Fta := X4 _ _ Fta
              have Ftb := X4 _ _ Ftb
              generalize upd B3 Rc (.tup [.str (Str.ofString "top"), .ref ta, .ref tb]) = B4 at *
              walk_at "go"
              refine ⟨lk rfl, fun td htd => ?_⟩
              have S5 := Same.new (o := .tup []) S4 htd
              have X5 := Ext.new (K := K) (o := .tup []) htd
              have Ftd : SqT K (upd B4 td (.tup [])) td [] := SqT.of upd_same
              have Ft := X5 _ _ Ft
              have Fta := X5 _ _ Fta
              have Ftb := X5 _ _ Ftb
              have FRc := FRc.mono X5 _ _
              generalize upd B4 td (.tup []) = B5 at *
              walk_at "go"
              refine u_ixT (hs1 _ S5).2 rfl ?_
              walk_at "go"
              refine ⟨lk rfl, fun te hte => ?_⟩
              have S6 := Same.new (o := .tup [u2]) S5 hte
              have X6 := Ext.new (K := K) (o := .tup [u2]) hte
              have Fte : SqT K (upd B5 te (.tup [u2])) te [u2] := SqT.of upd_same
              have Ft := X6 _ _ Ft
              have Fta := X6 _ _ Fta
              have Ftb := X6 _ _ Ftb
              have FRc := FRc.mono X6 _ _
              have Ftd := X6 _ _ Ftd
              generalize upd B5 te (.tup [u2]) = B6 at *
              walk_at "go"
              refine ⟨lk rfl, fun Rf hRf => ?_⟩
              have S7 := Same.new (o := .tup [.str (Str.ofString "sum"), .ref td, .ref te]) S6 hRf
              have X7 := Ext.new (K := K) (o := .tup [.str (Str.ofString "sum"), .ref td, .ref te]) hRf
              have FRf := mk1 (op := Str.ofString "sum") (j := j2) Ftd .nil Fte (r2.mono ((hS.ext s1).trans (Ext.of_same S6)) _ _) hRf
              have Ft := X7 _ _ Ft
              have Fta := X7 _ _ Fta
              have Ftb := X7 _ _ Ftb
              have FRc := FRc.mono X7 _ _
              have Ftd := X7 _ _ Ftd
              have Fte := X7 _ _ Fte
              generalize upd B6 Rf (.tup [.str (Str.ofString "sum"), .ref td, .ref te]) = B7 at *
              walk_at "go"
              refine ⟨lk rfl, fun tg htg => ?_⟩
              have S8 := Same.new (o := .tup [.ref Rc, .ref Rf]) S7 htg
              have X8 := Ext.new (K := K) (o := .tup [.ref Rc, .ref Rf]) htg
              have Ftg : SqT K (upd B7 tg (.tup [.ref Rc, .ref Rf])) tg [.ref Rc, .ref Rf] := SqT.of upd_same
              have Ft := X8 _ _ Ft
              have Fta := X8 _ _ Fta
              have Ftb := X8 _ _ Ftb
              have FRc := FRc.mono X8 _ _
              have Ftd := X8 _ _ Ftd
              have Fte := X8 _ _ Fte
              have FRf := FRf.mono X8 _ _
              generalize upd B7 tg (.tup [.ref Rc, .ref Rf]) = B8 at *
              walk_at "go"
              refine ⟨lk rfl, fun Rh hRh => ?_⟩
              have S9 := Same.new (o := .tup [.str (Str.ofString "outer"), .ref t, .ref tg]) S8 hRh
              have X9 := Ext.new (K := K) (o := .tup [.str (Str.ofString "outer"), .ref t, .ref tg]) hRh
              have FRh := mk2 (op := Str.ofString "outer") Ft .nil Ftg FRc FRf hRh
              have Ft := X9 _ _ Ft
              have Fta := X9 _ _ Fta
              have Ftb := X9 _ _ Ftb
              have FRc := FRc.mono X9 _ _
              have Ftd := X9 _ _ Ftd
              have Fte := X9 _ _ Fte
              have FRf := FRf.mono X9 _ _
              have Ftg := X9 _ _ Ftg
              generalize upd B8 Rh (.tup [.str (Str.ofString "outer"), .ref t, .ref tg]) = B9 at *
              walk_at "go"
              refine ⟨lk rfl, fun ti hti => ?_⟩
              exact q _ _ _ ((s1.trans (SB.of_same S9)).new hti) ((hS1.same S9).new hti) (mkTr FRh (show Gd ks _ 1 from .outer (s := 1) (t := 1) (by decide) (.unit _ (by decide +kernel) g1) (.unit _ (by decide +kernel) g2)) (by rw [cnt2, cnt1, cnt1]) hti) (by omega)
        · skip
          walk_at "go"
          refine rd_split (fun c9 => ?_) (fun c9 => ?_)
          · skip
            walk_at "go"
            refine ⟨lk rfl, fun t ht => ?_⟩
            walk_at "go"
            refine u_ixT (hs1 _ (same_new ht (.tup []))).1 rfl ?_
            walk_at "go"
            refine u_ixT (hs1 _ (same_new ht (.tup []))).2 rfl ?_
            walk_at "go"
            refine ⟨lk rfl, fun t2 ht2 => ?_⟩
            walk_at "go"
            refine ⟨lk rfl, fun t3 ht3 => ?_⟩
            walk_at "go"
            refine ⟨lk rfl, fun t4 ht4 => ?_⟩
            exact fin _ _ _ _ _ _ _ s1 hS1 (.cat c9 g1 g2) ht ht2 ht3 ht4
          · skip
            walk_at "go"
            refine ⟨lk rfl, fun t ht => ?_⟩
            have S1 := same_new ht (.tup [])
            have X1 := Ext.new (K := K) (o := .tup []) ht
            have Ft : SqT K (upd H1 t (.tup [])) t [] := SqT.of upd_same
            generalize upd H1 t (.tup []) = B1 at *
            walk_at "go"
            refine ⟨lk rfl, fun ta hta => ?_⟩
            have S2 := Same.new (o := .tup []) S1 hta
            have X2 := Ext.new (K := K) (o := .tup []) hta
            have Fta : SqT K (upd B1 ta (.tup [])) ta [] := SqT.of upd_same
            have Ft := X2 _ _ Ft
            generalize upd B1 ta (.tup []) = B2 at *
            walk_at "go"
            refine u_ixT (hs1 _ S2).1 rfl ?_
            walk_at "go"
            refine ⟨lk rfl, fun tb htb => ?_⟩
            have S3 := Same.new (o := .tup [u1]) S2 htb
            have X3 := Ext.new (K := K) (o := .tup [u1]) htb
            have Ftb : SqT K (upd B2 tb (.tup [u1])) tb [u1] := SqT.of upd_same
            have Ft := X3 _ _ Ft
            have Fta := X3 _ _ Fta
            generalize upd B2 tb (.tup [u1]) = B3 at *
            walk_at "go"
            refine ⟨lk rfl, fun Rc hRc => ?_⟩
            have S4 := Same.new (o := .tup [.str (Str.ofString "top"), .ref ta, .ref tb]) S3 hRc
            have X4 := Ext.new (K := K) (o := .tup [.str (Str.ofString "top"), .ref ta, .ref tb]) hRc
            have FRc := mk1 (op := Str.ofString "top") (j := j1) Fta .nil Ftb (r1.mono ((hS.ext s1).trans (Ext.of_same S3)) _ _) hRc
            have Ft := X4 _ _ Ft
            have Fta := X4 _ _ Fta
            have Ftb := X4 _ _ Ftb
            generalize upd B3 Rc (.tup [.str (Str.ofString "top"), .ref ta, .ref tb]) = B4 at *
            walk_at "go"
            refine ⟨lk rfl, fun td htd => ?_⟩
            have S5 := Same.new (o := .tup []) S4 htd
            have X5 := Ext.new (K := K) (o := .tup []) htd
            have Ftd : SqT K (upd B4 td (.tup [])) td [] := SqT.of upd_same
            have Ft := X5 _ _ Ft
            have Fta := X5 _ _ Fta
            have Ftb := X5 _ _ Ftb
            have FRc := FRc.mono X5 _ _
            generalize upd B4 td (.tup []) = B5 at *
            walk_at "go"
            refine u_ixT (hs1 _ S5).2 rfl ?_
            walk_at "go"
            refine ⟨lk rfl, fun te hte => ?_⟩
            have S6 := Same.new (o := .tup [u2]) S5 hte
            have X6 := Ext.new (K := K) (o := .tup [u2]) hte
            have Fte : SqT K (upd B5 te (.tup [u2])) te [u2] := SqT.of upd_same
            have Ft := X6 _ _ Ft
            have Fta := X6 _ _ Fta
            have Ftb := X6 _ _ Ftb
            have FRc := FRc.mono X6 _ _
            have Ftd := X6 _ _ Ftd
            generalize upd B5 te (.tup [u2]) = B6 at *
            walk_at "go"
            refine ⟨lk rfl, fun Rf hRf => ?_⟩
            have S7 := Same.new (o := .tup [.str (Str.ofString "sum"), .ref td, .ref te]) S6 hRf
            have X7 := Ext.new (K := K) (o := .tup [.str (Str.ofString "sum"), .ref td, .ref te]) hRf
            have FRf := mk1 (op := Str.ofString "sum") (j := j2) Ftd .nil Fte (r2.mono ((hS.ext s1).trans (Ext.of_same S6)) _ _) hRf
            have Ft := X7 _ _ Ft
            have Fta := X7 _ _ Fta
            have Ftb := X7 _ _ Ftb
            have FRc := FRc.mono X7 _ _
            have Ftd := X7 _ _ Ftd
            have Fte := X7 _ _ Fte
            generalize upd B6 Rf (.tup [.str (Str.ofString "sum"), .ref td, .ref te]) = B7 at *
            walk_at "go"
            refine ⟨lk rfl, fun tg htg => ?_⟩
            have S8 := Same.new (o := .tup [.ref Rc, .ref Rf]) S7 htg
            have X8 := Ext.new (K := K) (o := .tup [.ref Rc, .ref Rf]) htg
            have Ftg : SqT K (upd B7 tg (.tup [.ref Rc, .ref Rf])) tg [.ref Rc, .ref Rf] := SqT.of upd_same
            have Ft := X8 _ _ Ft
            have Fta := X8 _ _ Fta
            have Ftb := X8 _ _ Ftb
            have FRc := FRc.mono X8 _ _
            have Ftd := X8 _ _ Ftd
            have Fte := X8 _ _ Fte
            have FRf := FRf.mono X8 _ _
            generalize upd B7 tg (.tup [.ref Rc, .ref Rf]) = B8 at *
            walk_at "go"
            refine ⟨lk rfl, fun Rh hRh => ?_⟩
            have S9 := Same.new (o := .tup [.str (Str.ofString "outer"), .ref t, .ref tg]) S8 hRh
            have X9 := Ext.new (K := K) (o := .tup [.str (Str.ofString "outer"), .ref t, .ref tg]) hRh
            have FRh := mk2 (op := Str.ofString "outer") Ft .nil Ftg FRc FRf hRh
            have Ft := X9 _ _ Ft
            have Fta := X9 _ _ Fta
            have Ftb := X9 _ _ Ftb
            have FRc := FRc.mono X9 _ _
            have Ftd := X9 _ _ Ftd
            have Fte := X9 _ _ Fte
            have FRf := FRf.mono X9 _ _
            have Ftg := X9 _ _ Ftg
            generalize upd B8 Rh (.tup [.str (Str.ofString "outer"), .ref t, .ref tg]) = B9 at *
            walk_at "go"
            refine ⟨lk rfl, fun ti hti => ?_⟩
            exact q _ _ _ ((s1.trans (SB.of_same S9)).new hti) ((hS1.same S9).new hti) (mkTr FRh (show Gd ks _ 1 from .outer (s := 1) (t := 1) (by decide) (.unit _ (by decide +kernel) g1) (.unit _ (by decide +kernel) g2)) (by rw [cnt2, cnt1, cnt1]) hti) (by omega)
    · skip
      walk_at "go"
      refine rd_split (fun c7 => ?_) (fun c7 => ?_)
      · skip
        walk_at "go"
        refine rd_split (fun c8 => ?_) (fun c8 => ?_)
        · skip
          walk_at "go"
          refine ⟨lk rfl, fun t ht => ?_⟩
          walk_at "go"
          refine u_ixT (hs1 _ (same_new ht (.tup []))).1 rfl ?_
          walk_at "go"
          refine u_ixT (hs1 _ (same_new ht (.tup []))).2 rfl ?_
          walk_at "go"
          refine ⟨lk rfl, fun t2 ht2 => ?_⟩
          walk_at "go"
          refine ⟨lk rfl, fun t3 ht3 => ?_⟩
          walk_at "go"
          refine ⟨lk rfl, fun t4 ht4 => ?_⟩
          exact fin _ _ _ _ _ _ _ s1 hS1 (.blend (by omega) g1 g2) ht ht2 ht3 ht4
        · skip
          walk_at "go"
          refine rd_split (fun c9 => ?_) (fun c9 => ?_)
          · skip
            walk_at "go"
            refine ⟨lk rfl, fun t ht => ?_⟩
            walk_at "go"
            refine u_ixT (hs1 _ (same_new ht (.tup []))).1 rfl ?_
            walk_at "go"
            refine u_ixT (hs1 _ (same_new ht (.tup []))).2 rfl ?_
            walk_at "go"
            refine ⟨lk rfl, fun t2 ht2 => ?_⟩
            walk_at "go"
            refine ⟨lk rfl, fun t3 ht3 => ?_⟩
            walk_at "go"
            refine ⟨lk rfl, fun t4 ht4 => ?_⟩
            exact fin _ _ _ _ _ _ _ s1 hS1 (.cat c9 g1 g2) ht ht2 ht3 ht4
          · skip
            walk_at "go"
            refine ⟨lk rfl, fun t ht => ?_⟩
            have S1 := same_new ht (.tup [])
            have X1 := Ext.new (K := K) (o := .tup []) ht
            have Ft : SqT K (upd H1 t (.tup [])) t [] := SqT.of upd_same
            generalize upd H1 t (.tup []) = B1 at *
            walk_at "go"
            refine ⟨lk rfl, fun ta hta => ?_⟩
            have S2 := Same.new (o := .tup []) S1 hta
            have X2 := Ext.new (K := K) (o := .tup []) hta
            have Fta : SqT K (upd B1 ta (.tup [])) ta [] := SqT.of upd_same
            have Ft := X2 _ _ Ft
            generalize upd B1 ta (.tup []) = B2 at *
            walk_at "go"
            refine u_ixT (hs1 _ S2).1 rfl ?_
            walk_at "go"
            refine ⟨lk rfl, fun tb htb => ?_⟩
            have S3 := Same.new (o := .tup [u1]) S2 htb
            have X3 := Ext.new (K := K) (o := .tup [u1]) htb
            have Ftb : SqT K (upd B2 tb (.tup [u1])) tb [u1] := SqT.of upd_same
            have Ft := X3 _ _ Ft
            have Fta := X3 _ _ Fta
            generalize upd B2 tb (.tup [u1]) = B3 at *
            walk_at "go"
            refine ⟨lk rfl, fun Rc hRc => ?_⟩
            have S4 := Same.new (o := .tup [.str (Str.ofString "top"), .ref ta, .ref tb]) S3 hRc
            have X4 := Ext.new (K := K) (o := .tup [.str (Str.ofString "top"), .ref ta, .ref tb]) hRc
            have FRc := mk1 (op := Str.ofString "top") (j := j1) Fta .nil Ftb (r1.mono ((hS.ext s1).trans (Ext.of_same S3)) _ _) hRc
            have Ft := X4 _ _ Ft
            have Fta := X4 _ _ Fta
            have Ftb := X4 _ _ Ftb
            generalize upd B3 Rc (.tup [.str (Str.ofString "top"), .ref ta, .ref tb]) = B4 at *
            walk_at "go"
            refine ⟨lk rfl, fun td htd => ?_⟩
            have S5 := Same.new (o := .tup []) S4 htd
            have X5 := Ext.new (K := K) (o := .tup []) htd
            have Ftd : SqT K (upd B4 td (.tup [])) td [] := SqT.of upd_same
            have Ft := X5 _ _ Ft
            have Fta := X5 _ _ Fta
            have Ftb := X5 _ _ Ftb
            have FRc := FRc.mono X5 _ _
            generalize upd B4 td (.tup []) = B5 at *
            walk_at "go"
            refine u_ixT (hs1 _ S5).2 rfl ?_
            walk_at "go"
            refine ⟨lk rfl, fun te hte => ?_⟩
            have S6 := Same.new (o := .tup [u2]) S5 hte
            have X6 := Ext.new (K := K) (o := .tup [u2]) hte
            have Fte : SqT K (upd B5 te (.tup [u2])) te [u2] := SqT.of upd_same
            have Ft := X6 _ _ Ft
            have Fta := X6 _ _ Fta
            have Ftb := X6 _ _ Ftb
            have FRc := FRc.mono X6 _ _
            have Ftd := X6 _ _ Ftd
            generalize upd B5 te (.tup [u2]) = B6 at *
            walk_at "go"
            refine ⟨lk rfl, fun Rf hRf => ?_⟩
            have S7 := Same.new (o := .tup [.str (Str.ofString "sum"), .ref td, .ref te]) S6 hRf
            have X7 := Ext.new (K := K) (o := .tup [.str (Str.ofString "sum"), .ref td, .ref te]) hRf
            have FRf := mk1 (op := Str.ofString "sum") (j := j2) Ftd .nil Fte (r2.mono ((hS.ext s1).trans (Ext.of_same S6)) _ _) hRf
            have Ft := X7 _ _ Ft
            have Fta := X7 _ _ Fta
            have Ftb := X7 _ _ Ftb
            have FRc := FRc.mono X7 _ _
            have Ftd := X7 _ _ Ftd
            have Fte := X7 _ _ Fte
            generalize upd B6 Rf (.tup [.str (Str.ofString "sum"), .ref td, .ref te]) = B7 at *
            walk_at "go"
            refine ⟨lk rfl, fun tg htg => ?_⟩
            have S8 := Same.new (o := .tup [.ref Rc, .ref Rf]) S7 htg
            have X8 := Ext.new (K := K) (o := .tup [.ref Rc, .ref Rf]) htg
            have Ftg : SqT K (upd B7 tg (.tup [.ref Rc, .ref Rf])) tg [.ref Rc, .ref Rf] := SqT.of upd_same
            have Ft := X8 _ _ Ft
            have Fta := X8 _ _ Fta
            have Ftb := X8 _ _ Ftb
            have FRc := FRc.mono X8 _ _
            have Ftd := X8 _ _ Ftd
            have Fte := X8 _ _ Fte
            have FRf := FRf.mono X8 _ _
            generalize upd B7 tg (.tup [.ref Rc, .ref Rf]) = B8 at *
            walk_at "go"
            refine ⟨lk rfl, fun Rh hRh => ?_⟩
            have S9 := Same.new (o := .tup [.str (Str.ofString "outer"), .ref t, .ref tg]) S8 hRh
            have X9 := Ext.new (K := K) (o := .tup [.str (Str.ofString "outer"), .ref t, .ref tg]) hRh
            have FRh := mk2 (op := Str.ofString "outer") Ft .nil Ftg FRc FRf hRh
            have Ft := X9 _ _ Ft
            have Fta := X9 _ _ Fta
            have Ftb := X9 _ _ Ftb
            have FRc := FRc.mono X9 _ _
            have Ftd := X9 _ _ Ftd
            have Fte := X9 _ _ Fte
            have FRf := FRf.mono X9 _ _
            have Ftg := X9 _ _ Ftg
            generalize upd B8 Rh (.tup [.str (Str.ofString "outer"), .ref t, .ref tg]) = B9 at *
            walk_at "go"
            refine ⟨lk rfl, fun ti hti => ?_⟩
            exact q _ _ _ ((s1.trans (SB.of_same S9)).new hti) ((hS1.same S9).new hti) (mkTr FRh (show Gd ks _ 1 from .outer (s := 1) (t := 1) (by decide) (.unit _ (by decide +kernel) g1) (.unit _ (by decide +kernel) g2)) (by rw [cnt2, cnt1, cnt1]) hti) (by omega)
      · skip
        walk_at "go"
        refine rd_split (fun c9 => ?_) (fun c9 => ?_)
        · skip
          walk_at "go"
          refine ⟨lk rfl, fun t ht => ?_⟩
          walk_at "go"
          refine u_ixT (hs1 _ (same_new ht (.tup []))).1 rfl ?_
          walk_at "go"
          refine u_ixT (hs1 _ (same_new ht (.tup []))).2 rfl ?_
          walk_at "go"
          refine ⟨lk rfl, fun t2 ht2 => ?_⟩
          walk_at "go"
          refine ⟨lk rfl, fun t3 ht3 => ?_⟩
          walk_at "go"
          refine ⟨lk rfl, fun t4 ht4 => ?_⟩
          exact fin _ _ _ _ _ _ _ s1 hS1 (.cat c9 g1 g2) ht ht2 ht3 ht4
        · skip
          walk_at "go"
          refine ⟨lk rfl, fun t ht => ?_⟩
          have S1 := same_new ht (.tup [])
          have X1 := Ext.new (K := K) (o := .tup []) ht
          have Ft : SqT K (upd H1 t (.tup [])) t [] := SqT.of upd_same
          generalize upd H1 t (.tup []) = B1 at *
          walk_at "go"
          refine ⟨lk rfl, fun ta hta => ?_⟩
          have S2 := Same.new (o := .tup []) S1 hta
          have X2 := Ext.new (K := K) (o := .tup []) hta
          have Fta : SqT K (upd B1 ta (.tup [])) ta [] := SqT.of upd_same
          have Ft := X2 _ _ Ft
          generalize upd B1 ta (.tup []) = B2 at *
          walk_at "go"
          refine u_ixT (hs1 _ S2).1 rfl ?_
          walk_at "go"
          refine ⟨lk rfl, fun tb htb => ?_⟩
          have S3 := Same.new (o := .tup [u1]) S2 htb
          have X3 := Ext.new (K := K) (o := .tup [u1]) htb
          have Ftb : SqT K (upd B2 tb (.tup [u1])) tb [u1] := SqT.of upd_same
          have Ft := X3 _ _ Ft
          have Fta := X3 _ _ Fta
          generalize upd B2 tb (.tup [u1]) = B3 at *
          walk_at "go"
          refine ⟨lk rfl, fun Rc hRc => ?_⟩
          have S4 := Same.new (o := .tup [.str (Str.ofString "top"), .ref ta, .ref tb]) S3 hRc
          have X4 := Ext.new (K := K) (o := .tup [.str (Str.ofString "top"), .ref ta, .ref tb]) hRc
          have FRc := mk1 (op := Str.ofString "top") (j := j1) Fta .nil Ftb (r1.mono ((hS.ext s1).trans (Ext.of_same S3)) _ _) hRc
          have Ft := X4 _ _ Ft
          have Fta := X4 _ _ Fta
          have Ftb := X4 _ _ Ftb
          generalize upd B3 Rc (.tup [.str (Str.ofString "top"), .ref ta, .ref tb]) = B4 at *
          walk_at "go"
          refine ⟨lk rfl, fun td htd => ?_⟩
          have S5 := Same.new (o := .tup []) S4 htd
          have X5 := Ext.new (K := K) (o := .tup []) htd
          have Ftd : SqT K (upd B4 td (.tup [])) td [] := SqT.of upd_same
          have Ft := X5 _ _ Ft
          have Fta := X5 _ _ Fta
          have Ftb := X5 _ _ Ftb
          have FRc := FRc.mono X5 _ _
          generalize upd B4 td (.tup []) = B5 at *
          walk_at "go"
          refine u_ixT (hs1 _ S5).2 rfl ?_
          walk_at "go"
          refine ⟨lk rfl, fun te hte => ?_⟩
          have S6 := Same.new (o := .tup [u2]) S5 hte
          have X6 := Ext.new (K := K) (o := .tup [u2]) hte
          have Fte : SqT K (upd B5 te (.tup [u2])) te [u2] := SqT.of upd_same
          have Ft := X6 _ _ Ft
          have Fta := X6 _ _ Fta
          have Ftb := X6 _ _ Ftb
          have FRc := FRc.mono X6 _ _
          have Ftd := X6 _ _ Ftd
          generalize upd B5 te (.tup [u2]) = B6 at *
          walk_at "go"
          refine ⟨lk rfl, fun Rf hRf => ?_⟩
          have S7 := Same.new (o := .tup [.str (Str.ofString "sum"), .ref td, .ref te]) S6 hRf
          have X7 := Ext.new (K := K) (o := .tup [.str (Str.ofString "sum"), .ref td, .ref te]) hRf
          have FRf := mk1 (op := Str.ofString "sum") (j := j2) Ftd .nil Fte (r2.mono ((hS.ext s1).trans (Ext.of_same S6)) _ _) hRf
          have Ft := X7 _ _ Ft
          have Fta := X7 _ _ Fta
          have Ftb := X7 _ _ Ftb
          have FRc := FRc.mono X7 _ _
          have Ftd := X7 _ _ Ftd
          have Fte := X7 _ _ Fte
          generalize upd B6 Rf (.tup [.str (Str.ofString "sum"), .ref td, .ref te]) = B7 at *
          walk_at "go"
          refine ⟨lk rfl, fun tg htg => ?_⟩
          have S8 := Same.new (o := .tup [.ref Rc, .ref Rf]) S7 htg
          have X8 := Ext.new (K := K) (o := .tup [.ref Rc, .ref Rf]) htg
          have Ftg : SqT K (upd B7 tg (.tup [.ref Rc, .ref Rf])) tg [.ref Rc, .ref Rf] := SqT.of upd_same
          have Ft := X8 _ _ Ft
          have Fta := X8 _ _ Fta
          have Ftb := X8 _ _ Ftb
          have FRc := FRc.mono X8 _ _
          have Ftd := X8 _ _ Ftd
          have Fte := X8 _ _ Fte
          have FRf := FRf.mono X8 _ _
          generalize upd B7 tg (.tup [.ref Rc, .ref Rf]) = B8 at *
          walk_at "go"
          refine ⟨lk rfl, fun Rh hRh => ?_⟩
          have S9 := Same.new (o := .tup [.str (Str.ofString "outer"), .ref t, .ref tg]) S8 hRh
          have X9 := Ext.new (K := K) (o := .tup [.str (Str.ofString "outer"), .ref t, .ref tg]) hRh
          have FRh := mk2 (op := Str.ofString "outer") Ft .nil Ftg FRc FRf hRh
          have Ft := X9 _ _ Ft
          have Fta := X9 _ _ Fta
          have Ftb := X9 _ _ Ftb
          have FRc := FRc.mono X9 _ _
          have Ftd := X9 _ _ Ftd
          have Fte := X9 _ _ Fte
          have FRf := FRf.mono X9 _ _
          have Ftg := X9 _ _ Ftg
          generalize upd B8 Rh (.tup [.str (Str.ofString "outer"), .ref t, .ref tg]) = B9 at *
          walk_at "go"
          refine ⟨lk rfl, fun ti hti => ?_⟩
          exact q _ _ _ ((s1.trans (SB.of_same S9)).new hti) ((hS1.same S9).new hti) (mkTr FRh (show Gd ks _ 1 from .outer (s := 1) (t := 1) (by decide) (.unit _ (by decide +kernel) g1) (.unit _ (by decide +kernel) g2)) (by rw [cnt2, cnt1, cnt1]) hti) (by omega)
end
end Mine

/-! ### G4 -/
namespace Mine
open PySem PySem.Spec L2
local macro_rules | `(tactic| walk_at "st") => `(tactic| first
  | ((with_reducible apply rd_var); exact rfl)
  | (with_reducible apply rd_c)
  | (with_reducible apply rd_seq)
  | (with_reducible apply rd_asg)
  | (with_reducible apply rd_gname)
  | (with_reducible apply rd_op)
  | (with_reducible apply rd_cb)
  | (with_reducible apply rd_cons)
  | (with_reducible apply rd_nil)
  | (with_reducible apply rd_if)
  | (with_reducible apply rd_test)
  | (with_reducible apply rd_bl)
  | (with_reducible apply rd_retE)
  | (with_reducible apply rd_ret)
  | (with_reducible apply rd_call)
  | (with_reducible apply rd_tup)
  | (with_reducible apply rd_lst)
  | (with_reducible apply rd_drop)
  | (with_reducible apply rd_next)
  | (with_reducible apply rd_ife)
  | (with_reducible apply rd_gsub)
  | (with_reducible apply rd_par)
  | (with_reducible apply rd_par_end)
  | (with_reducible apply rd_un)
  | (with_reducible apply rd_and)
  | (with_reducible apply rd_or)
  | (with_reducible apply rd_not)
  | (with_reducible apply rd_andV)
  | (with_reducible apply rd_orV)
  | (with_reducible apply rd_notV)
  | (with_reducible apply rd_chain)
  | (with_reducible apply rd_tB)
  | (with_reducible apply rd_brk)
  | (with_reducible apply rd_ct)
  | (with_reducible apply u_add)
  | (with_reducible apply u_sub)
  | (with_reducible apply u_lt)
  | (with_reducible apply u_le)
  | (with_reducible apply u_gt)
  | (with_reducible apply u_ge)
  | (with_reducible apply u_eqI)
  | (with_reducible apply u_eqS)
  | (with_reducible apply u_neI)
  | (with_reducible apply u_int)
  | (with_reducible apply u_intB)
  | (with_reducible apply u_max)
  | (with_reducible apply u_min)
  | (with_reducible apply u_neg)
  | ((with_reducible apply u_mod); focus first | assumption | decide | omega)
  | ((with_reducible apply u_div); focus first | decide | omega | (constructor <;> first | assumption | omega))
  | ((with_reducible apply u_mul); focus first | exact Or.inl (by omega) | exact Or.inr (by omega) | exact Or.inl (by decide) | exact Or.inr (by decide))
  | ((with_reducible apply u_ixL); (focus (first | assumption | exact SqL.of (by assumption) | exact SqL.of upd_same)); exact rfl)
  | ((with_reducible apply u_lenL); focus (first | assumption | exact SqL.of (by assumption) | exact SqL.of upd_same))
  | ((with_reducible apply u_lenT); focus (first | assumption | exact SqT.of (by assumption) | exact SqT.of upd_same))
  | ((with_reducible apply u_setL); (focus (first | assumption | exact upd_same)); exact rfl)
  | (with_reducible apply rd_chain3)
  | (with_reducible apply rd_tru)
  | (with_reducible apply rd_truB)
  | ((with_reducible apply rd_truL); focus (first | assumption | exact SqL.of (by assumption) | exact SqL.of upd_same))
  | (with_reducible apply rd_bm)
  | (with_reducible apply rd_bm0)
  | ((with_reducible apply rd_tyL); focus (first | exact SqL.of (by assumption) | exact SqL.of upd_same))
  | (with_reducible apply u_min3)
  | (with_reducible apply rd_rev)
  | (with_reducible apply rd_iList)
  | (with_reducible apply rd_iTup)
  | (with_reducible apply rd_for)
  | (with_reducible apply rd_rng1)
  | (with_reducible apply rd_rng2)
  | ((with_reducible apply rd_rng1e); (focus omega); (focus omega))
  | ((with_reducible apply rd_rng2e); (focus omega))
  | (with_reducible apply rd_gcons)
  | (with_reducible apply rd_gnil)
  | (with_reducible apply rd_retN)
  | (with_reducible apply g_eqI)
  | (with_reducible apply g_eqS)
  | (with_reducible apply g_neI)
  | (with_reducible apply g_neS)
  | (with_reducible apply g_neB)
  | (with_reducible apply rd_xf)
  | (with_reducible apply rd_raiseE)
  | (with_reducible apply rd_callS)
  | (with_reducible apply u_inD)
  | (with_reducible apply u_notInD)
  | (with_reducible apply u_inS)
  | (with_reducible apply u_notInS)
  | (with_reducible apply rd_iSeq)
  | ((with_reducible apply rd_seqL); (focus first | assumption | exact SqL.of (by assumption) | exact SqL.of upd_same))
  | ((with_reducible apply rd_seqT); (focus first | assumption | exact SqT.of (by assumption) | exact SqT.of upd_same))
  | (with_reducible apply rd_istr)
  | (with_reducible apply rd_istrE)
  | ((with_reducible apply u_isi); (focus (first | exact Or.inl rfl | exact Or.inr (Or.inl rfl) | exact Or.inr (Or.inr (Or.inl rfl)) | exact Or.inr (Or.inr (Or.inr rfl)))); (focus first | assumption | exact Rp.int _ | exact Rp.str _))
  | ((with_reducible apply rd_itL); (focus first | assumption | exact SqL.of (by assumption) | exact SqL.of upd_same))
  | ((with_reducible apply rd_itT); (focus first | assumption | exact SqT.of (by assumption) | exact SqT.of upd_same))
  | (with_reducible apply rd_lc)
  | (with_reducible apply rd_yes)
  | ((with_reducible apply u_pow); (focus (exact ⟨by decide, by decide, by decide⟩)))
  | (with_reducible apply u_mul; focus exact Or.inr cm)
  | (with_reducible apply rd_par3)
  | (with_reducible apply rd_par3_end)
  | ((with_reducible apply rd_aug); exact rfl)
  | (with_reducible apply rd_ipI)
  | (with_reducible apply rd_dnew)
  | (with_reducible apply rd_din)
  | (with_reducible apply rd_dget)
  | (with_reducible apply rd_dput)
  | (with_reducible apply rd_disp1)
  | (with_reducible apply rd_sl)
  | (with_reducible apply rd_part)
  | (with_reducible apply rd_partI)
  | (with_reducible apply rd_nopart)
  | (with_reducible apply iteT)
  | (with_reducible apply iteF))
local macro_rules | `(tactic| walk_at "go") => `(tactic| repeat (walk_at "st"))
local macro_rules | `(tactic| walk_at "sp") => `(tactic| (first | refine rd_split (fun c => ?_) (fun c => ?_) | refine rd_splitN (fun c => ?_) (fun c => ?_) | refine rd_splitB (fun c => ?_) (fun c => ?_)))
local macro_rules | `(tactic| walk_at "nx") => `(tactic| repeat (first | (with_reducible apply iteF) | (with_reducible apply iteT) | (with_reducible apply rd_next)))

section
variable {P : Program} {w : World} {K : PySem.W.Frag} {mg : Str → Option Value} {base : Heap}
theorem cnts_snoc (r : List Jn) (l : Jn) : Jn.cnts (r ++ [l]) = Jn.cnts r + l.cnt := by rw [cnts_append]; simp [Jn.cnts]
theorem pys_snoc (r : List Jn) (l : Jn) : Jn.pys (r ++ [l]) = Jn.pys r ++ [l.py] := by rw [pys_append]; simp [Jn.pys]
theorem oks_snoc : ∀ {r : List Jn} {l : Jn}, Jn.oks (r ++ [l]) → Jn.oks r ∧ l.ok
  | [], l, h => by
    simp only [List.nil_append, Jn.oks] at h
    exact ⟨trivial, h.1⟩
  | a :: r, l, h => by
    simp only [List.cons_append, Jn.oks] at h ⊢
    have := oks_snoc h.2
    exact ⟨⟨h.1, this.1⟩, this.2⟩
abbrev s_law_count : Stmt := top 64
theorem sc_law_count : FnScope ["joint", "left", "many", "turn", "part"] ["joint"] (defScope s_law_count) := ⟨rfl, rfl, rfl, by decide +kernel, rfl, by decide +kernel, by decide +kernel⟩
def spCnt (K : PySem.W.Frag) : Sp := fun vs H Q _ => ∃ (u : V) (j : Jn), vs = [u] ∧ Rp K H u j.py ∧ j.ok ∧ j.cnt ≤ 150 ∧ ∀ H', Same H H' → Q (.int j.cnt) H'
theorem use_cnt {K : PySem.W.Frag} {u : V} {j : Jn} {H : Hp} {Q : VK} {E : XK} (r : Rp K H u j.py) (h : j.ok) (h1 : j.cnt ≤ 150) (q : ∀ H', Same H H' → Q (.int j.cnt) H') : spCnt K [u] H Q E := ⟨u, j, rfl, r, h, h1, q⟩
theorem has_count (O : OwnF K mg "_law_count" s_law_count) (B : Bl mg) : HasF P w K mg base CX0 1 "_law_count" ["joint"] (spCnt K) := by
  refine has0 O sc_law_count (fun _ _ _ _ _ _ us hl => match us, hl with | [_], _ => rfl) (fun vs H Q E h => ?_) (fun f cdv A outer s_ H vs Q E hr h => ?_)
  · obtain ⟨u, j, rfl, _⟩ := h
    rfl
  obtain ⟨u, j, rfl, r, hok, h150, q⟩ := h
  refine ⟨_, (pss_cons (ps_par (i := 1) (j := 2) (by rfl) sc_law_count.nd rfl rfl (by decide) rfl rfl (pa_cons (pe_lst (pa_cons (pv 0) pa_nil)) (pa_cons pe_int pa_nil)) (by rfl)) (pss_cons (ps_for PassesOwn.never rfl (pi_range1 (by rfl) B.range (pa_cons pe_int pa_nil)) (pg_name (i := 3) sc_law_count.nd rfl (by first | exact Or.inl rfl | exact Or.inr rfl)) (pss_one (ps_if (pt_truthK K (pv 1) (by intro _; rfl)) (pss_cons (ps_aug (i := 2) sc_law_count.nd rfl (by first | exact Or.inl rfl | exact Or.inr rfl) pe_int ip_add) (pss_one (ps_set (i := 1) sc_law_count.nd rfl (by first | exact Or.inl rfl | exact Or.inr rfl) (pe_op (kAdd K) (pv 1) (pe_lc (own := [("part", 4)]) (g := gName 4) (tt := tYes) rfl sc_law_count.nd (pi_tupK K (pe_ix (kIx K) (pe_bm0K K PySem.F.plainAttrs_list PySem.F.slot_list_pop PySem.F.type_list_pop mt_pop (pv 1)) pe_int (fun _ _ => rfl))) (blkOk_by (own := [("part", 4)]) (N := ["joint", "left", "many", "turn", "part"]) (sc := defScope s_law_count) (by decide +kernel)) (fun _ _ _ _ _ => (pg_name (i := 4) sc_law_count.nd rfl (by first | exact Or.inl rfl | exact Or.inr rfl))) (fun _ _ _ _ _ => pts_nil) (fun _ _ _ _ _ => (pv 4))))))) pss_nil))) (pss_one (ps_ret (pv 2))))), ?_⟩
  refine st0 [some u, none, none, none, none] rfl ?_
  walk_at "go"
  refine ⟨lk rfl, fun p hp => ?_⟩
  walk_at "go"
  refine forR (fun i σ H' => ∃ (b : Addr) (ws : List V) (st : List Jn) (m : Nat) (o1 o2 : Option V), σ = [some u, some (.ref b), some (.int m), o1, o2] ∧ Same H H' ∧ H b = none ∧ H' b = some (.lst ws) ∧ Rps K H' ws (Jn.pys st) ∧ Jn.oks st ∧ m + Jn.cnts st = j.cnt ∧ (st = [] ∨ m = i) ∧ ws.length ≤ 1 + 4 * m)
    ⟨p, [u], [j], 0, none, none, rfl, same_new hp _, hp, upd_same, by simp only [Jn.pys]; exact .one (r.mono (Ext.new hp) _ _), ⟨hok, trivial⟩, by simp [Jn.cnts], .inr rfl, by simp⟩ ?_ ?_
  · rintro i σ H' hi ⟨b, ws, st, m, o1, o2, rfl, g1, g2, g3, g4, g5, g6, g7, g8⟩
    walk_at "go"
    have lw := g4.length
    rw [pys_length] at lw
    refine rd_splitB (fun c => ?_) (fun c => ?_)
    · rcases List.eq_nil_or_concat st with rfl | ⟨st', l, rfl⟩
      · cases ws with
        | nil => cases c
        | cons _ _ => cases lw
      rw [List.concat_eq_append] at *
      have g7' : m = i := g7.resolve_left (by simp)
      rw [pys_snoc] at g4
      rw [cnts_snoc] at g6
      obtain ⟨hr1, hl1⟩ := oks_snoc g5
      obtain ⟨op, td, parts⟩ := l
      have hl2 := hl1
      simp only [Jn.ok] at hl2
      have lp4 := hl2.2.2.2.1
      have e2 : (Jn.pys st' ++ [(Jn.mk op td parts).py])[ws.length - 1]? = some (Jn.mk op td parts).py := by
        rw [lw, List.length_append, ← pys_length st']
        simp
      obtain ⟨x, ex, rx⟩ := g4.get e2
      obtain ⟨pj, t, qa, tv, pvs, rfl, hsj, _, _, hsq, hRq⟩ := rx.jn
      have hlq : pvs.length = parts.length := by rw [hRq.length, pys_length]
      walk_at "go"
      refine u_pop g3 ex ?_
      have xD : Ext K H' (upd H' b (.lst ws.dropLast)) := Ext.set g3 trivial
      have s2 : Same H (upd H' b (.lst ws.dropLast)) := Same.upd_new g1 g2
      have hDr : Rps K (upd H' b (.lst ws.dropLast)) ws.dropLast (Jn.pys st') := by
        have h3 := g4.dropLast
        rw [List.dropLast_concat] at h3
        exact h3.mono xD _ _
      have hsj2 := xD _ _ hsj
      have hsq2 := xD _ _ hsq
      have hRq2 := hRq.mono xD _ _
      have ea2 : (upd H' b (.lst ws.dropLast)) b = some (.lst ws.dropLast) := upd_same
      generalize upd H' b (.lst ws.dropLast) = H2 at *
      walk_at "go"
      refine u_ixT hsj2 rfl ?_
      walk_at "go"
      intro D hD
      refine lc_tup (K := K) (a := qa) (xs := pvs) (fun k H' => ∃ vs, H' D = some (.lst vs) ∧ vs = pvs.take k ∧ Same H2 H') ⟨[], upd_same, by simp, Same.upd_new (Same.refl H2) hD⟩ ?_ ?_ ?_
      · rintro k H3 hk ⟨vs, f1, f2, f3⟩
        exact Ext.of_same f3 _ _ hsq2
      · rintro k y H3 hy ⟨vs, f1, f2, f3⟩
        walk_at "go"
        refine ⟨rfl, ?_⟩
        walk_at "go"
        refine ⟨vs, f1, ?_, vs ++ [y], upd_same, by rw [f2, take_more hy], Same.upd_new f3 hD⟩
        rw [f2, List.length_take]
        exact ls (by omega)
      rintro H3 ⟨vs, f1, f2, f3⟩
      rw [List.take_length] at f2
      subst f2
      refine u_addL (f3 _ _ ea2) f1 ?_ fun p2 hp2 => ?_
      · rw [List.length_dropLast]
        exact ll (by omega)
      have s3 : Same H H3 := s2.trans f3
      walk_at "go"
      refine ⟨p2, ws.dropLast ++ vs, st' ++ parts, m + 1, _, _, rfl, Same.new s3 hp2, ?_, upd_same, ?_, oks_append _ _ hr1 hl2.2.2.2.2, ?_, .inr (by omega), ?_⟩
      · cases hh : H p2 with
        | none => rfl
        | some o => rw [s3 _ _ hh] at hp2; cases hp2
      · rw [pys_append]
        exact ((hDr.mono (Ext.of_same f3) _ _).append (hRq2.mono (Ext.of_same f3) _ _)).mono (Ext.new hp2) _ _
      · rw [cnts_append]
        simp only [Jn.cnt] at g6
        omega
      · rw [List.length_append, List.length_dropLast]
        omega
    · have hst : st = [] := by
        cases ws with
        | nil => exact List.eq_nil_of_length_eq_zero lw.symm
        | cons _ _ => cases c
      walk_at "go"
      exact ⟨b, ws, st, m, _, _, rfl, g1, g2, g3, g4, g5, g6, .inl hst, g8⟩
  · rintro σ H' ⟨b, ws, st, m, o1, o2, rfl, g1, g2, g3, g4, g5, g6, g7, g8⟩
    walk_at "go"
    have hst : st = [] := by
      rcases g7 with h | h
      · exact h
      · exfalso
        have h2 : m = 200 := h
        omega
    subst hst
    simp only [Jn.cnts] at g6
    rw [show (m : Int) = (j.cnt : Int) by omega]
    exact q H' g1
end
end Mine

/-! ### G5 -/
namespace Mine
open PySem PySem.Spec L2
local macro_rules | `(tactic| walk_at "st") => `(tactic| first
  | ((with_reducible apply rd_var); exact rfl)
  | (with_reducible apply rd_c)
  | (with_reducible apply rd_seq)
  | (with_reducible apply rd_asg)
  | (with_reducible apply rd_gname)
  | (with_reducible apply rd_op)
  | (with_reducible apply rd_cb)
  | (with_reducible apply rd_cons)
  | (with_reducible apply rd_nil)
  | (with_reducible apply rd_if)
  | (with_reducible apply rd_test)
  | (with_reducible apply rd_bl)
  | (with_reducible apply rd_retE)
  | (with_reducible apply rd_ret)
  | (with_reducible apply rd_call)
  | (with_reducible apply rd_tup)
  | (with_reducible apply rd_lst)
  | (with_reducible apply rd_drop)
  | (with_reducible apply rd_next)
  | (with_reducible apply rd_ife)
  | (with_reducible apply rd_gsub)
  | (with_reducible apply rd_par)
  | (with_reducible apply rd_par_end)
  | (with_reducible apply rd_un)
  | (with_reducible apply rd_and)
  | (with_reducible apply rd_or)
  | (with_reducible apply rd_not)
  | (with_reducible apply rd_andV)
  | (with_reducible apply rd_orV)
  | (with_reducible apply rd_notV)
  | (with_reducible apply rd_chain)
  | (with_reducible apply rd_tB)
  | (with_reducible apply rd_brk)
  | (with_reducible apply rd_ct)
  | (with_reducible apply u_add)
  | (with_reducible apply u_sub)
  | (with_reducible apply u_lt)
  | (with_reducible apply u_le)
  | (with_reducible apply u_gt)
  | (with_reducible apply u_ge)
  | (with_reducible apply u_eqI)
  | (with_reducible apply u_eqS)
  | (with_reducible apply u_neI)
  | (with_reducible apply u_int)
  | (with_reducible apply u_intB)
  | (with_reducible apply u_max)
  | (with_reducible apply u_min)
  | (with_reducible apply u_neg)
  | ((with_reducible apply u_mod); focus first | assumption | decide | omega)
  | ((with_reducible apply u_div); focus first | decide | omega | (constructor <;> first | assumption | omega))
  | ((with_reducible apply u_mul); focus first | exact Or.inl (by omega) | exact Or.inr (by omega) | exact Or.inl (by decide) | exact Or.inr (by decide))
  | ((with_reducible apply u_ixL); (focus (first | assumption | exact SqL.of (by assumption) | exact SqL.of upd_same)); exact rfl)
  | ((with_reducible apply u_lenL); focus (first | assumption | exact SqL.of (by assumption) | exact SqL.of upd_same))
  | ((with_reducible apply u_lenT); focus (first | assumption | exact SqT.of (by assumption) | exact SqT.of upd_same))
  | ((with_reducible apply u_setL); (focus (first | assumption | exact upd_same)); exact rfl)
  | (with_reducible apply rd_chain3)
  | (with_reducible apply rd_tru)
  | (with_reducible apply rd_truB)
  | ((with_reducible apply rd_truL); focus (first | assumption | exact SqL.of (by assumption) | exact SqL.of upd_same))
  | (with_reducible apply rd_bm)
  | (with_reducible apply rd_bm0)
  | ((with_reducible apply rd_tyL); focus (first | exact SqL.of (by assumption) | exact SqL.of upd_same))
  | (with_reducible apply u_min3)
  | (with_reducible apply rd_rev)
  | (with_reducible apply rd_iList)
  | (with_reducible apply rd_iTup)
  | (with_reducible apply rd_for)
  | (with_reducible apply rd_rng1)
  | (with_reducible apply rd_rng2)
  | ((with_reducible apply rd_rng1e); (focus omega); (focus omega))
  | ((with_reducible apply rd_rng2e); (focus omega))
  | (with_reducible apply rd_gcons)
  | (with_reducible apply rd_gnil)
  | (with_reducible apply rd_retN)
  | (with_reducible apply g_eqI)
  | (with_reducible apply g_eqS)
  | (with_reducible apply g_neI)
  | (with_reducible apply g_neS)
  | (with_reducible apply g_neB)
  | (with_reducible apply rd_xf)
  | (with_reducible apply rd_raiseE)
  | (with_reducible apply rd_callS)
  | (with_reducible apply u_inD)
  | (with_reducible apply u_notInD)
  | (with_reducible apply u_inS)
  | (with_reducible apply u_notInS)
  | (with_reducible apply rd_iSeq)
  | ((with_reducible apply rd_seqL); (focus first | assumption | exact SqL.of (by assumption) | exact SqL.of upd_same))
  | ((with_reducible apply rd_seqT); (focus first | assumption | exact SqT.of (by assumption) | exact SqT.of upd_same))
  | (with_reducible apply rd_istr)
  | (with_reducible apply rd_istrE)
  | ((with_reducible apply u_isi); (focus (first | exact Or.inl rfl | exact Or.inr (Or.inl rfl) | exact Or.inr (Or.inr (Or.inl rfl)) | exact Or.inr (Or.inr (Or.inr rfl)))); (focus first | assumption | exact Rp.int _ | exact Rp.str _))
  | ((with_reducible apply rd_itL); (focus first | assumption | exact SqL.of (by assumption) | exact SqL.of upd_same))
  | ((with_reducible apply rd_itT); (focus first | assumption | exact SqT.of (by assumption) | exact SqT.of upd_same))
  | (with_reducible apply rd_lc)
  | (with_reducible apply rd_yes)
  | ((with_reducible apply u_pow); (focus (exact ⟨by decide, by decide, by decide⟩)))
  | (with_reducible apply u_mul; focus exact Or.inr cm)
  | (with_reducible apply rd_par3)
  | (with_reducible apply rd_par3_end)
  | ((with_reducible apply rd_aug); exact rfl)
  | (with_reducible apply rd_ipI)
  | (with_reducible apply rd_dnew)
  | (with_reducible apply rd_din)
  | (with_reducible apply rd_dget)
  | (with_reducible apply rd_dput)
  | (with_reducible apply rd_disp1)
  | (with_reducible apply rd_sl)
  | (with_reducible apply rd_part)
  | (with_reducible apply rd_partI)
  | (with_reducible apply rd_nopart)
  | (with_reducible apply iteT)
  | (with_reducible apply iteF))
local macro_rules | `(tactic| walk_at "go") => `(tactic| repeat (walk_at "st"))
local macro_rules | `(tactic| walk_at "sp") => `(tactic| (first | refine rd_split (fun c => ?_) (fun c => ?_) | refine rd_splitN (fun c => ?_) (fun c => ?_) | refine rd_splitB (fun c => ?_) (fun c => ?_)))
local macro_rules | `(tactic| walk_at "nx") => `(tactic| repeat (first | (with_reducible apply iteF) | (with_reducible apply iteT) | (with_reducible apply rd_next)))

section
variable {P : Program} {w : World} {K : PySem.W.Frag} {mg : Str → Option Value} {base : Heap}
structure Trs (K : PySem.W.Frag) (ks : Nat → Int) (H : Hp) (ws : List V) (cs : List Nat) : Prop where
  length : ws.length = cs.length
  get : ∀ (i : Nat) (v : V), ws[i]? = some v → ∃ c, cs[i]? = some c ∧ Tr K ks H v c
theorem Trs.mono {ks : Nat → Int} {H H' : Hp} {ws : List V} {cs : List Nat} (h : Trs K ks H ws cs) (e : Ext K H H') : Trs K ks H' ws cs :=
  ⟨h.length, fun i v hv => by
    obtain ⟨c, e1, e2⟩ := h.get i v hv
    exact ⟨c, e1, e2.mono e⟩⟩
theorem Trs.one {ks : Nat → Int} {H : Hp} {v : V} {c : Nat} (h : Tr K ks H v c) : Trs K ks H [v] [c] :=
  ⟨rfl, fun i x hx => by
    match i, hx with
    | 0, hx => exact ⟨c, rfl, by have q : v = x := by simpa using hx
                                 rw [← q]; exact h⟩
    | i + 1, hx => simp at hx⟩
theorem Trs.snoc {ks : Nat → Int} {H : Hp} {v : V} {c : Nat} {ws : List V} {cs : List Nat} (t : Trs K ks H ws cs) (h : Tr K ks H v c) : Trs K ks H (ws ++ [v]) (cs ++ [c]) :=
  ⟨by rw [List.length_append, List.length_append, t.length] <;> rfl, fun i x hx => by
    by_cases hi : i < ws.length
    · rw [List.getElem?_append_left hi] at hx
      obtain ⟨d, e1, e2⟩ := t.get i x hx
      exact ⟨d, by rw [List.getElem?_append_left (by have := t.length; omega)]; exact e1, e2⟩
    · rw [List.getElem?_append_right (by omega)] at hx
      obtain ⟨d, e1, e2⟩ := (Trs.one h).get _ x hx
      exact ⟨d, by rw [List.getElem?_append_right (by have := t.length; omega), ← t.length]; exact e1, e2⟩⟩
theorem Trs.set {ks : Nat → Int} {H : Hp} {v : V} {c : Nat} {ws : List V} {cs : List Nat} (t : Trs K ks H ws cs) (h : Tr K ks H v c) (n : Nat) (hn : n < ws.length) : Trs K ks H (ws.set n v) (cs.set n c) :=
  ⟨by rw [List.length_set, List.length_set, t.length], fun i x hx => by
    by_cases e : n = i
    · subst e
      rw [List.getElem?_set_self hn] at hx
      cases hx
      exact ⟨c, List.getElem?_set_self (by have := t.length; omega), h⟩
    · rw [List.getElem?_set_ne e] at hx
      obtain ⟨d, e1, e2⟩ := t.get i x hx
      exact ⟨d, by rw [List.getElem?_set_ne e]; exact e1, e2⟩⟩
theorem Trs.dropLast {ks : Nat → Int} {H : Hp} {ws : List V} {cs : List Nat} (t : Trs K ks H ws cs) : Trs K ks H ws.dropLast cs.dropLast :=
  ⟨by rw [List.length_dropLast, List.length_dropLast, t.length], fun i x hx => by
    rw [List.getElem?_dropLast] at hx
    split at hx
    · rename_i hi
      obtain ⟨d, e1, e2⟩ := t.get i x hx
      exact ⟨d, by rw [List.getElem?_dropLast, if_pos (by rw [← t.length]; exact hi)]; exact e1, e2⟩
    · cases hx⟩
theorem ix_put {n j : Nat} (hj : j < n) : ixN n (j : Int) = some j := by
  simp [ixN]
  omega
theorem sum_set : ∀ {cs : List Nat} {i c d : Nat}, cs[i]? = some c → (cs.set i d).sum + c = cs.sum + d
  | [], i, c, d, e => by simp at e
  | a :: r, 0, c, d, e => by
    have q : a = c := by simpa using e
    subst q
    simp only [List.set_cons_zero, List.sum_cons]
    omega
  | a :: r, i + 1, c, d, e => by
    have := sum_set (cs := r) (i := i) (c := c) (d := d) (by simpa using e)
    simp only [List.set_cons_succ, List.sum_cons]
    omega
theorem sum_mem : ∀ {cs : List Nat} {c : Nat}, c ∈ cs → c ≤ cs.sum
  | a :: r, c, m => by
    simp only [List.sum_cons]
    rcases List.mem_cons.mp m with rfl | m
    · omega
    · have := sum_mem m; omega
theorem sum_last : ∀ {cs : List Nat} {c : Nat}, cs[cs.length - 1]? = some c → cs.dropLast.sum + c = cs.sum
  | [], c, e => by simp at e
  | [a], c, e => by
    have q : a = c := by simpa using e
    simp [q]
  | a :: b :: r, c, e => by
    have := sum_last (cs := b :: r) (c := c) (by simpa using e)
    simp only [List.dropLast_cons₂, List.sum_cons] at this ⊢
    omega
theorem sum_snoc (cs : List Nat) (c : Nat) : (cs ++ [c]).sum = cs.sum + c := by simp [List.sum_append]
theorem sum_int : ∀ cs : List Nat, (cs.map fun (c : Nat) => (c : Int)).sum = (cs.sum : Int)
  | [] => rfl
  | a :: r => by simp only [List.map_cons, List.sum_cons, sum_int r]; omega
/-- the trees while a program is made -/
structure Pg (K : PySem.W.Frag) (ks : Nat → Int) (a ak tr : Addr) (H0 : Hp) (ws : List V) (cs : List Nat) (H : Hp) : Prop where
  sb : SB a H0 H
  src : Src H a
  kin : Kin K ks H ak
  e : H tr = some (.lst ws)
  t : Trs K ks H ws cs
  na : ak ≠ a
  nt : tr ≠ a
  nkt : ak ≠ tr
  h0 : H0 tr = none
theorem Pg.step {ks : Nat → Int} {a ak tr : Addr} {H0 H H' : Hp} {ws : List V} {cs : List Nat} (p : Pg K ks a ak tr H0 ws cs H) (s : SB a H H') (h : Src H' a) : Pg K ks a ak tr H0 ws cs H' :=
  ⟨p.sb.trans s, h, s _ _ p.na p.kin, s _ _ p.nt p.e, p.t.mono (p.src.ext s), p.na, p.nt, p.nkt, p.h0⟩
theorem Pg.write {ks : Nat → Int} {a ak tr : Addr} {H0 H : Hp} {ws ws' : List V} {cs cs' : List Nat} (p : Pg K ks a ak tr H0 ws cs H) (h : Trs K ks H ws' cs') : Pg K ks a ak tr H0 ws' cs' (upd H tr (.lst ws')) :=
  ⟨p.sb.upd_new p.h0, p.src.set p.nt, by rw [show Kin K ks (upd H tr (.lst ws')) ak ↔ upd H tr (.lst ws') ak = some (.lst [.int (ks 0), .int (ks 1), .int (ks 2)]) from Iff.rfl, upd_ne p.nkt]; exact p.kin, upd_same, h.mono (Ext.set p.e trivial), p.na, p.nt, p.nkt, p.h0⟩
theorem Pg.same {ks : Nat → Int} {a ak tr : Addr} {H0 H H' : Hp} {ws : List V} {cs : List Nat} (p : Pg K ks a ak tr H0 ws cs H) (s : Same H H') : Pg K ks a ak tr H0 ws cs H' := p.step (SB.of_same s) (p.src.same s)
theorem Trs.last {ks : Nat → Int} {H : Hp} {ws : List V} {cs : List Nat} (h : Trs K ks H ws cs) (l : 0 < ws.length) : ∃ v c, ws[ws.length - 1]? = some v ∧ Tr K ks H v c ∧ cs.dropLast.sum + c = cs.sum := by
  have hk : ws.length - 1 < ws.length := by omega
  obtain ⟨c, e1, e2⟩ := h.get _ _ (List.getElem?_eq_getElem hk)
  rw [h.length] at e1
  exact ⟨_, c, List.getElem?_eq_getElem hk, e2, sum_last e1⟩
abbrev s_law_program : Stmt := top 65
theorem sc_law_program : FnScope ["source", "most", "kinds", "turn", "trees", "want", "used", "spare", "way", "at", "two", "one", "tree"] ["source", "most"] (defScope s_law_program) := ⟨rfl, rfl, rfl, by decide +kernel, rfl, by decide +kernel, by decide +kernel⟩
def spPr (K : PySem.W.Frag) : Sp := fun vs H Q _ => ∃ (a : Addr) (most : Int), vs = [.ref a, .int most] ∧ Src H a ∧ 1 ≤ most ∧ most ≤ 40 ∧
  ∀ (H' : Hp) (u : V) (j : Jn) (s : Int) (ks : Nat → Int), SB a H H' → Src H' a → Rp K H' u j.py → Gd ks j s → (j.cnt : Int) ≤ most → Q u H'
theorem has_program (O : OwnF K mg "_law_program" s_law_program) (B : Bl mg) (BS : mg "sum" = none) (h_law_take : HasF P w K mg base CX0 1 "_law_take" ["source", "top"] spTake) (h_law_leaf : HasF P w K mg base CX0 4 "_law_leaf" ["source", "kinds"] (spLf K)) (h_law_single : HasF P w K mg base CX0 2 "_law_single" ["source", "joint", "many"] (spSg K))
    (h_law_double : HasF P w K mg base CX0 2 "_law_double" ["source", "one", "two"] (spDb K)) (h_law_count : HasF P w K mg base CX0 1 "_law_count" ["joint"] (spCnt K)) : HasF P w K mg base CX0 5 "_law_program" ["source", "most"] (spPr K) := by
  refine has0 O sc_law_program (fun _ _ _ _ _ _ us hl => match us, hl with | [_, _], _ => rfl) (fun vs H Q E h => ?_) (fun f cdv A outer s_ H vs Q E hr h => ?_)
  · obtain ⟨a, most, rfl, _⟩ := h
    rfl
  obtain ⟨a, most, rfl, hS, h1, h2, q⟩ := h
  refine ⟨_, (pss_cons (ps_setLc (i := 2) (own := [("turn", 3)]) (g := gName 3) (tt := tYes) rfl sc_law_program.nd rfl rfl (sw_true rfl rfl rfl (by decide +kernel)) (pi_range1 (by rfl) B.range (pa_cons pe_int pa_nil)) (blkOk_by (own := [("turn", 3)]) (N := ["source", "most", "kinds", "turn", "trees", "want", "used", "spare", "way", "at", "two", "one", "tree"]) (sc := defScope s_law_program) (by decide +kernel)) (fun _ _ _ _ _ => (pg_name (i := 3) sc_law_program.nd rfl (by first | exact Or.inl rfl | exact Or.inr rfl))) (fun _ _ _ _ _ => pts_nil) (fun _ _ _ _ _ => (pe_op (kAdd K) pe_int (pe_callH h_law_take (hr.mono (by first | decide | omega)) (by rfl) pass0 (pa_cons (pv 0) (pa_cons pe_int pa_nil)))))) (pss_cons (ps_par3 (i := 4) (j := 5) (l := 6) (by rfl) sc_law_program.nd rfl rfl rfl (by decide) (by decide) (by decide) rfl rfl rfl (pa_cons (pe_lst (pa_cons (pe_callH h_law_leaf (hr.mono (by first | decide | omega)) (by rfl) pass0 (pa_cons (pv 0) (pa_cons (pv 2) pa_nil))) pa_nil)) (pa_cons (pe_op (kAdd K) pe_int (pe_callH h_law_take (hr.mono (by first | decide | omega)) (by rfl) pass0 (pa_cons (pv 0) (pa_cons (pv 1) pa_nil)))) (pa_cons pe_int pa_nil))) (by rfl)) (pss_cons (ps_for PassesOwn.never rfl (pi_range1 (by rfl) B.range (pa_cons (pe_op (kMul K) pe_int (pv 1)) pa_nil)) (pg_name (i := 3) sc_law_program.nd rfl (by first | exact Or.inl rfl | exact Or.inr rfl)) (pss_cons (ps_set (i := 7) sc_law_program.nd rfl (by first | exact Or.inl rfl | exact Or.inr rfl) (pe_op subU (pe_op subU (pv 5) (pv 6)) (pe_op (kMul K) pe_int (pe_op subU (pe_callB (kLen K) (by rfl) B.len (by decide +kernel) (pa_cons (pv 4) pa_nil)) pe_int)))) (pss_cons (ps_set (i := 8) sc_law_program.nd rfl (by first | exact Or.inl rfl | exact Or.inr rfl) (pe_callH h_law_take (hr.mono (by first | decide | omega)) (by rfl) pass0 (pa_cons (pv 0) (pa_cons pe_int pa_nil)))) (pss_one (ps_if (PW.pt (pw_and (pt_cmpR ltU (pv 8) pe_int (nomark _)) (pw_and1 (pt_cmpR geU (pv 7) pe_int (nomark _))))) (pss_cons (ps_expr (pe_bmK K PySem.F.plainAttrs_list PySem.F.slot_list_append PySem.F.type_list_append mt_append (pv 4) (pa_cons (pe_callH h_law_leaf (hr.mono (by first | decide | omega)) (by rfl) pass0 (pa_cons (pv 0) (pa_cons (pv 2) pa_nil))) pa_nil))) (pss_one (ps_aug (i := 6) sc_law_program.nd rfl (by first | exact Or.inl rfl | exact Or.inr rfl) pe_int ip_add))) (pss_one (ps_if (PW.pt (pw_and (pt_cmpR ltU (pv 8) pe_int (nomark _)) (pw_and1 (pt_cmpR geU (pv 7) pe_int (nomark _))))) (pss_cons (ps_set (i := 9) sc_law_program.nd rfl (by first | exact Or.inl rfl | exact Or.inr rfl) (pe_callH h_law_take (hr.mono (by first | decide | omega)) (by rfl) pass0 (pa_cons (pv 0) (pa_cons (pe_callB (kLen K) (by rfl) B.len (by decide +kernel) (pa_cons (pv 4) pa_nil)) pa_nil)))) (pss_cons (ps_asg (pe_callH h_law_single (hr.mono (by first | decide | omega)) (by rfl) pass0 (pa_cons (pv 0) (pa_cons (pe_ix (kIx K) (pe_ix (kIx K) (pv 4) (pv 9) (fun _ _ => rfl)) pe_int (fun _ _ => rfl)) (pa_cons (pe_ix (kIx K) (pe_ix (kIx K) (pv 4) (pv 9) (fun _ _ => rfl)) pe_int (fun _ _ => rfl)) pa_nil)))) (pg_sub (pv 4) (pv 9) set_list)) (pss_one (ps_aug (i := 6) sc_law_program.nd rfl (by first | exact Or.inl rfl | exact Or.inr rfl) pe_int ip_add)))) (pss_one (ps_if (PW.pt (pw_and (pt_cmpR (kEqG K (hU hr)) (pv 8) pe_int (nomark _)) (pw_and1 (pt_cmpR gtU (pe_callB (kLen K) (by rfl) B.len (by decide +kernel) (pa_cons (pv 4) pa_nil)) pe_int (nomark _))))) (pss_cons (ps_par (i := 10) (j := 11) (by rfl) sc_law_program.nd rfl rfl (by decide) rfl rfl (pa_cons (pe_bm0K K PySem.F.plainAttrs_list PySem.F.slot_list_pop PySem.F.type_list_pop mt_pop (pv 4)) (pa_cons (pe_bm0K K PySem.F.plainAttrs_list PySem.F.slot_list_pop PySem.F.type_list_pop mt_pop (pv 4)) pa_nil)) (by rfl)) (pss_cons (ps_expr (pe_bmK K PySem.F.plainAttrs_list PySem.F.slot_list_append PySem.F.type_list_append mt_append (pv 4) (pa_cons (pe_callH h_law_double (hr.mono (by first | decide | omega)) (by rfl) pass0 (pa_cons (pv 0) (pa_cons (pv 11) (pa_cons (pv 10) pa_nil)))) pa_nil))) (pss_one (ps_set (i := 6) sc_law_program.nd rfl (by first | exact Or.inl rfl | exact Or.inr rfl) (pe_callB (kSum K rfl) (by rfl) BS (by decide +kernel) (pa_cons (pe_lc (own := [("tree", 12)]) (g := gName 12) (tt := tYes) rfl sc_law_program.nd (pi_listK K (pv 4)) (blkOk_by (own := [("tree", 12)]) (N := ["source", "most", "kinds", "turn", "trees", "want", "used", "spare", "way", "at", "two", "one", "tree"]) (sc := defScope s_law_program) (by decide +kernel)) (fun _ _ _ _ _ => (pg_name (i := 12) sc_law_program.nd rfl (by first | exact Or.inl rfl | exact Or.inr rfl))) (fun _ _ _ _ _ => pts_nil) (fun _ _ _ _ _ => (pe_callH h_law_count (hr.mono (by first | decide | omega)) (by rfl) pass0 (pa_cons (pe_ix (kIx K) (pv 12) pe_int (fun _ _ => rfl)) pa_nil)))) pa_nil)))))) pss_nil))))))))) (pss_cons (ps_for PassesOwn.never rfl (pi_range1 (by rfl) B.range (pa_cons (pe_op subU (pe_callB (kLen K) (by rfl) B.len (by decide +kernel) (pa_cons (pv 4) pa_nil)) pe_int) pa_nil)) (pg_name (i := 3) sc_law_program.nd rfl (by first | exact Or.inl rfl | exact Or.inr rfl)) (pss_cons (ps_par (i := 10) (j := 11) (by rfl) sc_law_program.nd rfl rfl (by decide) rfl rfl (pa_cons (pe_bm0K K PySem.F.plainAttrs_list PySem.F.slot_list_pop PySem.F.type_list_pop mt_pop (pv 4)) (pa_cons (pe_bm0K K PySem.F.plainAttrs_list PySem.F.slot_list_pop PySem.F.type_list_pop mt_pop (pv 4)) pa_nil)) (by rfl)) (pss_one (ps_expr (pe_bmK K PySem.F.plainAttrs_list PySem.F.slot_list_append PySem.F.type_list_append mt_append (pv 4) (pa_cons (pe_callH h_law_double (hr.mono (by first | decide | omega)) (by rfl) pass0 (pa_cons (pv 0) (pa_cons (pv 11) (pa_cons (pv 10) pa_nil)))) pa_nil)))))) (pss_one (ps_ret (pe_ix (kIx K) (pe_ix (kIx K) (pv 4) pe_int (fun _ _ => rfl)) pe_int (fun _ _ => rfl)))))))), ?_⟩
  refine st0 [some (.ref a), some (.int most), none, none, none, none, none, none, none, none, none, none, none] rfl ?_
  walk_at "go"
  intro ak hak
  have na := hS.ne hak
  refine lc_range (lo := 0) (n := 3) (fun i H' => ∃ ns : List Int, H' ak = some (.lst (ns.map V.int)) ∧ ns.length = i ∧ (∀ n ∈ ns, 1 ≤ n ∧ n ≤ 64) ∧ SB a H H' ∧ Src H' a) ⟨[], upd_same, rfl, (fun _ z => nomatch z), SB.refl.new hak, hS.new hak⟩ ?_ ?_
  · rintro i H' hi ⟨ns, g1, g2, gb, g3, g4⟩
    walk_at "go"
    refine ⟨rfl, ?_⟩
    walk_at "go"
    refine use_take g4 (by omega) (by omega) fun H2 r s2 hS2 r0 r1 => ?_
    have g5 := s2 _ _ na g1
    walk_at "go"
    refine ⟨_, g5, ?_, ns ++ [1 + r], ?_, ?_, fun n hn => ?_, (g3.trans s2).upd_new hak, hS2.set na⟩
    · rw [List.length_map, g2]; exact ls (by omega)
    · rw [upd_same, List.map_append] <;> rfl
    · rw [List.length_append, g2] <;> rfl
    · rcases List.mem_append.mp hn with h | h
      · exact gb n h
      · rw [show n = 1 + r by simpa using h]; omega
  rintro H1 ⟨ns, g1, g2, gb, g3, g4⟩
  obtain ⟨ks, hkin, hks⟩ : ∃ ks : Nat → Int, Kin K ks H1 ak ∧ ∀ i, 1 ≤ ks i ∧ ks i ≤ 64 := by
    match ns, g2, gb, g1 with
    | [x, y, z], _, gb, g1 =>
      refine ⟨fun i => if i = 0 then x else if i = 1 then y else z, g1, fun i => ?_⟩
      have b1 := gb x (by simp)
      have b2 := gb y (by simp)
      have b3 := gb z (by simp)
      dsimp only
      by_cases c0 : i = 0
      · rw [if_pos c0]; exact b1
      · rw [if_neg c0]
        by_cases c1 : i = 1
        · rw [if_pos c1]; exact b2
        · rw [if_neg c1]; exact b3
  clear g1 g2 gb
  walk_at "go"
  refine use_lf g4 hkin na hks fun H2 v0 s2 hS2 t0 => ?_
  have hk2 : Kin K ks H2 ak := s2 _ _ na hkin
  walk_at "go"
  refine ⟨lk rfl, fun tr htr => ?_⟩
  have nt := hS2.ne htr
  have sA : SB a H H2 := g3.trans s2
  have p0 : Pg K ks a ak tr H [v0] [1] (upd H2 tr (.lst [v0])) := ⟨sA.new htr, hS2.new htr, same_new htr _ _ _ hk2, upd_same, Trs.one (t0.mono (Ext.new htr)), na, nt, ne_of_none hk2 htr, sA.fresh nt htr⟩
  clear s2 g3 hk2 t0 hS2 sA
  generalize upd H2 tr (.lst [v0]) = H3 at *
  walk_at "go"
  refine use_take p0.src (by omega) (by omega) fun H4 w0 s4 hS4 wa wb => ?_
  have p4 := p0.step s4 hS4
  clear p0 s4
  obtain ⟨want, ew, hw1, hw2⟩ : ∃ want : Int, 1 + w0 = want ∧ 1 ≤ want ∧ want ≤ most := ⟨_, rfl, by omega, by omega⟩
  refine u_add ?_
  rw [ew]
  walk_at "go"
  refine forR (fun i σ H' => ∃ (ws : List V) (cs : List Nat) (o3 o7 o8 o9 o10 o11 o12 : Option V), σ = [some (.ref a), some (.int most), some (.ref ak), o3, some (.ref tr), some (.int want), some (.int (cs.sum : Int)), o7, o8, o9, o10, o11, o12] ∧ Pg K ks a ak tr H ws cs H' ∧ 1 ≤ ws.length ∧ (cs.sum : Int) + 3 * ((ws.length : Int) - 1) ≤ want)
    ⟨[v0], [1], none, none, none, none, none, none, none, rfl, p4, by simp, by simp; omega⟩ ?_ ?_
  · rintro i σ H' hi ⟨ws, cs, o3, o7, o8, o9, o10, o11, o12, rfl, p, hl1, hw⟩
    have e := p.e
    have hlen := p.t.length
    have hsl : ws.length ≤ 40 := by omega
    walk_at "go"
    refine use_take p.src (by omega) (by omega) fun H5 way s5 hS5 y0 y1 => ?_
    have p5 := p.step s5 hS5
    have e5 := p5.e
    clear s5 p e
    walk_at "go"
    refine rd_split (fun c0 => ?_) (fun c0 => ?_)
    · skip
      walk_at "go"
      refine rd_split (fun c1 => ?_) (fun c1 => ?_)
      · skip
        walk_at "go"
        refine use_lf p5.src p5.kin p5.na hks fun H6 v6 s6 hS6 t6 => ?_
        have p6 := p5.step s6 hS6
        walk_at "go"
        refine u_app p6.e (ls (by omega)) ?_
        have p7 := p6.write (p6.t.snoc t6)
        walk_at "go"
        refine ⟨ws ++ [v6], cs ++ [1], _, _, _, _, _, _, _, by rw [sum_snoc] <;> rfl, p7, by simp, ?_⟩
        rw [sum_snoc, List.length_append, List.length_singleton]
        omega
      · skip
        walk_at "go"
        refine rd_split (fun c2 => ?_) (fun c2 => ?_)
        · skip
          walk_at "go"
          refine rd_split (fun c3 => ?_) (fun c3 => ?_)
          · skip
            walk_at "go"
            refine use_take p5.src (by omega) (by omega) fun H6 at_ s6 hS6 z0 z1 => ?_
            have p6 := p5.step s6 hS6
            have e6 := p6.e
            obtain ⟨n, rfl, hn⟩ : ∃ n : Nat, at_ = n ∧ n < ws.length := ⟨at_.toNat, by omega, by omega⟩
            have ei : ws[n]? = some ws[n] := List.getElem?_eq_getElem hn
            obtain ⟨c, ec, tc⟩ := p6.t.get _ _ ei
            obtain ⟨pp, u, j, s, hv, hsp, hr, hg, hc⟩ := tc
            have ea : atI ws (n : Int) = some (.ref pp) := by rw [← hv]; exact atI_nat ei
            walk_at "go"
            refine u_ixL (SqL.of e6) ea ?_
            walk_at "go"
            refine u_ixT hsp rfl ?_
            walk_at "go"
            refine u_ixL (SqL.of e6) ea ?_
            walk_at "go"
            refine u_ixT hsp rfl ?_
            walk_at "go"
            refine use_sg p6.src hr hg fun H7 v7 s7 hS7 t7 => ?_
            have p7 := p6.step s7 hS7
            walk_at "go"
            refine u_setL p7.e (ix_put hn) ?_
            have p8 := p7.write (p7.t.set t7 n hn)
            walk_at "go"
            have hss := sum_set (d := 1 + j.cnt) ec
            refine ⟨ws.set n v7, cs.set n (1 + j.cnt), _, _, _, _, _, _, _, by rw [show ((cs.set n (1 + j.cnt)).sum : Int) = (cs.sum : Int) + 1 by omega] <;> rfl, p8, by rw [List.length_set]; exact hl1, ?_⟩
            rw [List.length_set]
            omega
          · skip
            walk_at "go"
            refine rd_split (fun c4 => ?_) (fun c4 => ?_)
            · skip
              walk_at "go"
              refine rd_split (fun c5 => ?_) (fun c5 => ?_)
              · skip
                obtain ⟨x1, c1, ex1, tx1, sx1⟩ := p5.t.last (by omega)
                walk_at "go"
                refine u_pop p5.e ex1 ?_
                have q1 := p5.write p5.t.dropLast
                have tx1 := tx1.mono (Ext.set (u := .lst ws.dropLast) p5.e trivial)
                have eq1 := q1.e
                have ld1 : ws.dropLast.length = ws.length - 1 := List.length_dropLast
                generalize upd H5 tr (.lst ws.dropLast) = H6 at *
                obtain ⟨x2, c2, ex2, tx2, sx2⟩ := q1.t.last (by omega)
                walk_at "go"
                refine u_pop eq1 ex2 ?_
                have q2 := q1.write q1.t.dropLast
                have tx1 := tx1.mono (Ext.set (u := .lst ws.dropLast.dropLast) eq1 trivial)
                have tx2 := tx2.mono (Ext.set (u := .lst ws.dropLast.dropLast) eq1 trivial)
                have ld2 : ws.dropLast.dropLast.length = ws.length - 1 - 1 := by rw [List.length_dropLast, ld1]
                clear q1 eq1 ex1 ex2
                generalize upd H6 tr (.lst ws.dropLast.dropLast) = H7 at *
                have eq2 := q2.e
                walk_at "go"
                refine use_db q2.src tx2 tx1 fun H8 v8 c8 s8 hS8 t8 hc8 => ?_
                have q3 := q2.step s8 hS8
                clear q2 s8 tx1 tx2
                walk_at "go"
                refine u_app q3.e (ls (by omega)) ?_
                have q4 := q3.write (q3.t.snoc t8)
                have e4 := q4.e
                have n4 : (ws.dropLast.dropLast ++ [v8]).length = ws.length - 1 := by rw [List.length_append, ld2] <;> simp <;> omega
                have m4 := sum_snoc cs.dropLast.dropLast c8
                clear q3 t8
                generalize upd H8 tr (.lst (ws.dropLast.dropLast ++ [v8])) = H9 at *
                walk_at "go"
                intro D hD
                refine lc_list (K := K) (a := tr) (xs := ws.dropLast.dropLast ++ [v8]) (fun k H' => ∃ ns : List Int, H' D = some (.lst (ns.map V.int)) ∧ ns = ((cs.dropLast.dropLast ++ [c8]).take k).map (fun (c : Nat) => (c : Int)) ∧ Same H9 H') ⟨[], upd_same, by simp, Same.upd_new (Same.refl H9) hD⟩ ?_ ?_ ?_
                · rintro k H' hk ⟨ns, f1, f2, f3⟩
                  exact SqL.of (f3 _ _ e4)
                · rintro k y H' hy ⟨ns, f1, f2, f3⟩
                  obtain ⟨c, ec, pp, u, j, s, rfl, hsp, hr9, hg, hc⟩ := q4.t.get k y hy
                  have cm := sum_mem (List.mem_of_getElem? ec)
                  have kl : k < (ws.dropLast.dropLast ++ [v8]).length := (List.getElem?_eq_some_iff.mp hy).1
                  walk_at "go"
                  refine ⟨rfl, ?_⟩
                  walk_at "go"
                  refine u_ixT (Ext.of_same f3 _ _ hsp) rfl ?_
                  walk_at "go"
                  refine use_cnt (hr9.mono (Ext.of_same f3) _ _) hg.ok (by omega) fun H10 s10 => ?_
                  have f4 := s10 _ _ f1
                  refine ⟨_, f4, ?_, ns ++ [(j.cnt : Int)], by rw [upd_same, List.map_append] <;> rfl, ?_, Same.upd_new (f3.trans s10) hD⟩
                  · rw [List.length_map, f2, List.length_map, List.length_take]
                    exact ls (by omega)
                  · rw [f2, take_more ec, List.map_append, hc] <;> rfl
                rintro H10 ⟨ns, f1, f2, f3⟩
                have q5 := q4.same f3
                walk_at "go"
                refine ⟨D, ns, rfl, SqL.of f1, ?_⟩
                have fs : ns.sum = ((cs.dropLast.dropLast ++ [c8]).sum : Int) := by
                  rw [f2, q4.t.length, List.take_length]
                  exact sum_int _
                rw [fs]
                walk_at "go"
                refine ⟨ws.dropLast.dropLast ++ [v8], cs.dropLast.dropLast ++ [c8], _, _, _, _, _, _, _, rfl, q5, by omega, ?_⟩
                omega
              · skip
                walk_at "go"
                exact ⟨ws, cs, _, _, _, _, _, _, _, rfl, p5, hl1, hw⟩
            · skip
              walk_at "go"
              exact ⟨ws, cs, _, _, _, _, _, _, _, rfl, p5, hl1, hw⟩
        · skip
          walk_at "go"
          refine rd_split (fun c4 => ?_) (fun c4 => ?_)
          · skip
            walk_at "go"
            refine rd_split (fun c5 => ?_) (fun c5 => ?_)
            · skip
              obtain ⟨x1, c1, ex1, tx1, sx1⟩ := p5.t.last (by omega)
              walk_at "go"
              refine u_pop p5.e ex1 ?_
              have q1 := p5.write p5.t.dropLast
              have tx1 := tx1.mono (Ext.set (u := .lst ws.dropLast) p5.e trivial)
              have eq1 := q1.e
              have ld1 : ws.dropLast.length = ws.length - 1 := List.length_dropLast
              generalize upd H5 tr (.lst ws.dropLast) = H6 at *
              obtain ⟨x2, c2, ex2, tx2, sx2⟩ := q1.t.last (by omega)
              walk_at "go"
              refine u_pop eq1 ex2 ?_
              have q2 := q1.write q1.t.dropLast
              have tx1 := tx1.mono (Ext.set (u := .lst ws.dropLast.dropLast) eq1 trivial)
              have tx2 := tx2.mono (Ext.set (u := .lst ws.dropLast.dropLast) eq1 trivial)
              have ld2 : ws.dropLast.dropLast.length = ws.length - 1 - 1 := by rw [List.length_dropLast, ld1]
              clear q1 eq1 ex1 ex2
              generalize upd H6 tr (.lst ws.dropLast.dropLast) = H7 at *
              have eq2 := q2.e
              walk_at "go"
              refine use_db q2.src tx2 tx1 fun H8 v8 c8 s8 hS8 t8 hc8 => ?_
              have q3 := q2.step s8 hS8
              clear q2 s8 tx1 tx2
              walk_at "go"
              refine u_app q3.e (ls (by omega)) ?_
              have q4 := q3.write (q3.t.snoc t8)
              have e4 := q4.e
              have n4 : (ws.dropLast.dropLast ++ [v8]).length = ws.length - 1 := by rw [List.length_append, ld2] <;> simp <;> omega
              have m4 := sum_snoc cs.dropLast.dropLast c8
              clear q3 t8
              generalize upd H8 tr (.lst (ws.dropLast.dropLast ++ [v8])) = H9 at *
              walk_at "go"
              intro D hD
              refine lc_list (K := K) (a := tr) (xs := ws.dropLast.dropLast ++ [v8]) (fun k H' => ∃ ns : List Int, H' D = some (.lst (ns.map V.int)) ∧ ns = ((cs.dropLast.dropLast ++ [c8]).take k).map (fun (c : Nat) => (c : Int)) ∧ Same H9 H') ⟨[], upd_same, by simp, Same.upd_new (Same.refl H9) hD⟩ ?_ ?_ ?_
              · rintro k H' hk ⟨ns, f1, f2, f3⟩
                exact SqL.of (f3 _ _ e4)
              · rintro k y H' hy ⟨ns, f1, f2, f3⟩
                obtain ⟨c, ec, pp, u, j, s, rfl, hsp, hr9, hg, hc⟩ := q4.t.get k y hy
                have cm := sum_mem (List.mem_of_getElem? ec)
                have kl : k < (ws.dropLast.dropLast ++ [v8]).length := (List.getElem?_eq_some_iff.mp hy).1
                walk_at "go"
                refine ⟨rfl, ?_⟩
                walk_at "go"
                refine u_ixT (Ext.of_same f3 _ _ hsp) rfl ?_
                walk_at "go"
                refine use_cnt (hr9.mono (Ext.of_same f3) _ _) hg.ok (by omega) fun H10 s10 => ?_
                have f4 := s10 _ _ f1
                refine ⟨_, f4, ?_, ns ++ [(j.cnt : Int)], by rw [upd_same, List.map_append] <;> rfl, ?_, Same.upd_new (f3.trans s10) hD⟩
                · rw [List.length_map, f2, List.length_map, List.length_take]
                  exact ls (by omega)
                · rw [f2, take_more ec, List.map_append, hc] <;> rfl
              rintro H10 ⟨ns, f1, f2, f3⟩
              have q5 := q4.same f3
              walk_at "go"
              refine ⟨D, ns, rfl, SqL.of f1, ?_⟩
              have fs : ns.sum = ((cs.dropLast.dropLast ++ [c8]).sum : Int) := by
                rw [f2, q4.t.length, List.take_length]
                exact sum_int _
              rw [fs]
              walk_at "go"
              refine ⟨ws.dropLast.dropLast ++ [v8], cs.dropLast.dropLast ++ [c8], _, _, _, _, _, _, _, rfl, q5, by omega, ?_⟩
              omega
            · skip
              walk_at "go"
              exact ⟨ws, cs, _, _, _, _, _, _, _, rfl, p5, hl1, hw⟩
          · skip
            walk_at "go"
            exact ⟨ws, cs, _, _, _, _, _, _, _, rfl, p5, hl1, hw⟩
    · skip
      walk_at "go"
      refine rd_split (fun c2 => ?_) (fun c2 => ?_)
      · skip
        walk_at "go"
        refine rd_split (fun c3 => ?_) (fun c3 => ?_)
        · skip
          walk_at "go"
          refine use_take p5.src (by omega) (by omega) fun H6 at_ s6 hS6 z0 z1 => ?_
          have p6 := p5.step s6 hS6
          have e6 := p6.e
          obtain ⟨n, rfl, hn⟩ : ∃ n : Nat, at_ = n ∧ n < ws.length := ⟨at_.toNat, by omega, by omega⟩
          have ei : ws[n]? = some ws[n] := List.getElem?_eq_getElem hn
          obtain ⟨c, ec, tc⟩ := p6.t.get _ _ ei
          obtain ⟨pp, u, j, s, hv, hsp, hr, hg, hc⟩ := tc
          have ea : atI ws (n : Int) = some (.ref pp) := by rw [← hv]; exact atI_nat ei
          walk_at "go"
          refine u_ixL (SqL.of e6) ea ?_
          walk_at "go"
          refine u_ixT hsp rfl ?_
          walk_at "go"
          refine u_ixL (SqL.of e6) ea ?_
          walk_at "go"
          refine u_ixT hsp rfl ?_
          walk_at "go"
          refine use_sg p6.src hr hg fun H7 v7 s7 hS7 t7 => ?_
          have p7 := p6.step s7 hS7
          walk_at "go"
          refine u_setL p7.e (ix_put hn) ?_
          have p8 := p7.write (p7.t.set t7 n hn)
          walk_at "go"
          have hss := sum_set (d := 1 + j.cnt) ec
          refine ⟨ws.set n v7, cs.set n (1 + j.cnt), _, _, _, _, _, _, _, by rw [show ((cs.set n (1 + j.cnt)).sum : Int) = (cs.sum : Int) + 1 by omega] <;> rfl, p8, by rw [List.length_set]; exact hl1, ?_⟩
          rw [List.length_set]
          omega
        · skip
          walk_at "go"
          refine rd_split (fun c4 => ?_) (fun c4 => ?_)
          · skip
            walk_at "go"
            refine rd_split (fun c5 => ?_) (fun c5 => ?_)
            · skip
              obtain ⟨x1, c1, ex1, tx1, sx1⟩ := p5.t.last (by omega)
              walk_at "go"
              refine u_pop p5.e ex1 ?_
              have q1 := p5.write p5.t.dropLast
              have tx1 := tx1.mono (Ext.set (u := .lst ws.dropLast) p5.e trivial)
              have eq1 := q1.e
              have ld1 : ws.dropLast.length = ws.length - 1 := List.length_dropLast
              generalize upd H5 tr (.lst ws.dropLast) = H6 at *
              obtain ⟨x2, c2, ex2, tx2, sx2⟩ := q1.t.last (by omega)
              walk_at "go"
              refine u_pop eq1 ex2 ?_
              have q2 := q1.write q1.t.dropLast
              have tx1 := tx1.mono (Ext.set (u := .lst ws.dropLast.dropLast) eq1 trivial)
              have tx2 := tx2.mono (Ext.set (u := .lst ws.dropLast.dropLast) eq1 trivial)
              have ld2 : ws.dropLast.dropLast.length = ws.length - 1 - 1 := by rw [List.length_dropLast, ld1]
              clear q1 eq1 ex1 ex2
              generalize upd H6 tr (.lst ws.dropLast.dropLast) = H7 at *
              have eq2 := q2.e
              walk_at "go"
              refine use_db q2.src tx2 tx1 fun H8 v8 c8 s8 hS8 t8 hc8 => ?_
              have q3 := q2.step s8 hS8
              clear q2 s8 tx1 tx2
              walk_at "go"
              refine u_app q3.e (ls (by omega)) ?_
              have q4 := q3.write (q3.t.snoc t8)
              have e4 := q4.e
              have n4 : (ws.dropLast.dropLast ++ [v8]).length = ws.length - 1 := by rw [List.length_append, ld2] <;> simp <;> omega
              have m4 := sum_snoc cs.dropLast.dropLast c8
              clear q3 t8
              generalize upd H8 tr (.lst (ws.dropLast.dropLast ++ [v8])) = H9 at *
              walk_at "go"
              intro D hD
              refine lc_list (K := K) (a := tr) (xs := ws.dropLast.dropLast ++ [v8]) (fun k H' => ∃ ns : List Int, H' D = some (.lst (ns.map V.int)) ∧ ns = ((cs.dropLast.dropLast ++ [c8]).take k).map (fun (c : Nat) => (c : Int)) ∧ Same H9 H') ⟨[], upd_same, by simp, Same.upd_new (Same.refl H9) hD⟩ ?_ ?_ ?_
              · rintro k H' hk ⟨ns, f1, f2, f3⟩
                exact SqL.of (f3 _ _ e4)
              · rintro k y H' hy ⟨ns, f1, f2, f3⟩
                obtain ⟨c, ec, pp, u, j, s, rfl, hsp, hr9, hg, hc⟩ := q4.t.get k y hy
                have cm := sum_mem (List.mem_of_getElem? ec)
                have kl : k < (ws.dropLast.dropLast ++ [v8]).length := (List.getElem?_eq_some_iff.mp hy).1
                walk_at "go"
                refine ⟨rfl, ?_⟩
                walk_at "go"
                refine u_ixT (Ext.of_same f3 _ _ hsp) rfl ?_
                walk_at "go"
                refine use_cnt (hr9.mono (Ext.of_same f3) _ _) hg.ok (by omega) fun H10 s10 => ?_
                have f4 := s10 _ _ f1
                refine ⟨_, f4, ?_, ns ++ [(j.cnt : Int)], by rw [upd_same, List.map_append] <;> rfl, ?_, Same.upd_new (f3.trans s10) hD⟩
                · rw [List.length_map, f2, List.length_map, List.length_take]
                  exact ls (by omega)
                · rw [f2, take_more ec, List.map_append, hc] <;> rfl
              rintro H10 ⟨ns, f1, f2, f3⟩
              have q5 := q4.same f3
              walk_at "go"
              refine ⟨D, ns, rfl, SqL.of f1, ?_⟩
              have fs : ns.sum = ((cs.dropLast.dropLast ++ [c8]).sum : Int) := by
                rw [f2, q4.t.length, List.take_length]
                exact sum_int _
              rw [fs]
              walk_at "go"
              refine ⟨ws.dropLast.dropLast ++ [v8], cs.dropLast.dropLast ++ [c8], _, _, _, _, _, _, _, rfl, q5, by omega, ?_⟩
              omega
            · skip
              walk_at "go"
              exact ⟨ws, cs, _, _, _, _, _, _, _, rfl, p5, hl1, hw⟩
          · skip
            walk_at "go"
            exact ⟨ws, cs, _, _, _, _, _, _, _, rfl, p5, hl1, hw⟩
      · skip
        walk_at "go"
        refine rd_split (fun c4 => ?_) (fun c4 => ?_)
        · skip
          walk_at "go"
          refine rd_split (fun c5 => ?_) (fun c5 => ?_)
          · skip
            obtain ⟨x1, c1, ex1, tx1, sx1⟩ := p5.t.last (by omega)
            walk_at "go"
            refine u_pop p5.e ex1 ?_
            have q1 := p5.write p5.t.dropLast
            have tx1 := tx1.mono (Ext.set (u := .lst ws.dropLast) p5.e trivial)
            have eq1 := q1.e
            have ld1 : ws.dropLast.length = ws.length - 1 := List.length_dropLast
            generalize upd H5 tr (.lst ws.dropLast) = H6 at *
            obtain ⟨x2, c2, ex2, tx2, sx2⟩ := q1.t.last (by omega)
            walk_at "go"
            refine u_pop eq1 ex2 ?_
            have q2 := q1.write q1.t.dropLast
            have tx1 := tx1.mono (Ext.set (u := .lst ws.dropLast.dropLast) eq1 trivial)
            have tx2 := tx2.mono (Ext.set (u := .lst ws.dropLast.dropLast) eq1 trivial)
            have ld2 : ws.dropLast.dropLast.length = ws.length - 1 - 1 := by rw [List.length_dropLast, ld1]
            clear q1 eq1 ex1 ex2
            generalize upd H6 tr (.lst ws.dropLast.dropLast) = H7 at *
            have eq2 := q2.e
            walk_at "go"
            refine use_db q2.src tx2 tx1 fun H8 v8 c8 s8 hS8 t8 hc8 => ?_
            have q3 := q2.step s8 hS8
            clear q2 s8 tx1 tx2
            walk_at "go"
            refine u_app q3.e (ls (by omega)) ?_
            have q4 := q3.write (q3.t.snoc t8)
            have e4 := q4.e
            have n4 : (ws.dropLast.dropLast ++ [v8]).length = ws.length - 1 := by rw [List.length_append, ld2] <;> simp <;> omega
            have m4 := sum_snoc cs.dropLast.dropLast c8
            clear q3 t8
            generalize upd H8 tr (.lst (ws.dropLast.dropLast ++ [v8])) = H9 at *
            walk_at "go"
            intro D hD
            refine lc_list (K := K) (a := tr) (xs := ws.dropLast.dropLast ++ [v8]) (fun k H' => ∃ ns : List Int, H' D = some (.lst (ns.map V.int)) ∧ ns = ((cs.dropLast.dropLast ++ [c8]).take k).map (fun (c : Nat) => (c : Int)) ∧ Same H9 H') ⟨[], upd_same, by simp, Same.upd_new (Same.refl H9) hD⟩ ?_ ?_ ?_
            · rintro k H' hk ⟨ns, f1, f2, f3⟩
              exact SqL.of (f3 _ _ e4)
            · rintro k y H' hy ⟨ns, f1, f2, f3⟩
              obtain ⟨c, ec, pp, u, j, s, rfl, hsp, hr9, hg, hc⟩ := q4.t.get k y hy
              have cm := sum_mem (List.mem_of_getElem? ec)
              have kl : k < (ws.dropLast.dropLast ++ [v8]).length := (List.getElem?_eq_some_iff.mp hy).1
              walk_at "go"
              refine ⟨rfl, ?_⟩
              walk_at "go"
              refine u_ixT (Ext.of_same f3 _ _ hsp) rfl ?_
              walk_at "go"
              refine use_cnt (hr9.mono (Ext.of_same f3) _ _) hg.ok (by omega) fun H10 s10 => ?_
              have f4 := s10 _ _ f1
              refine ⟨_, f4, ?_, ns ++ [(j.cnt : Int)], by rw [upd_same, List.map_append] <;> rfl, ?_, Same.upd_new (f3.trans s10) hD⟩
              · rw [List.length_map, f2, List.length_map, List.length_take]
                exact ls (by omega)
              · rw [f2, take_more ec, List.map_append, hc] <;> rfl
            rintro H10 ⟨ns, f1, f2, f3⟩
            have q5 := q4.same f3
            walk_at "go"
            refine ⟨D, ns, rfl, SqL.of f1, ?_⟩
            have fs : ns.sum = ((cs.dropLast.dropLast ++ [c8]).sum : Int) := by
              rw [f2, q4.t.length, List.take_length]
              exact sum_int _
            rw [fs]
            walk_at "go"
            refine ⟨ws.dropLast.dropLast ++ [v8], cs.dropLast.dropLast ++ [c8], _, _, _, _, _, _, _, rfl, q5, by omega, ?_⟩
            omega
          · skip
            walk_at "go"
            exact ⟨ws, cs, _, _, _, _, _, _, _, rfl, p5, hl1, hw⟩
        · skip
          walk_at "go"
          exact ⟨ws, cs, _, _, _, _, _, _, _, rfl, p5, hl1, hw⟩
  · rintro σ H' ⟨ws, cs, o3, o7, o8, o9, o10, o11, o12, rfl, p, hl1, hw⟩
    have e := p.e
    have hlen := p.t.length
    have hsl : ws.length ≤ 40 := by omega
    walk_at "go"
    refine forR (fun i σ H' => ∃ (ws2 : List V) (cs2 : List Nat) (p3 p10 p11 : Option V), σ = [some (.ref a), some (.int most), some (.ref ak), p3, some (.ref tr), some (.int want), some (.int (cs.sum : Int)), o7, o8, o9, p10, p11, o12] ∧ Pg K ks a ak tr H ws2 cs2 H' ∧ ws2.length + i = ws.length ∧ (cs2.sum : Int) + 3 * ((ws2.length : Int) - 1) ≤ want) ⟨ws, cs, _, _, _, rfl, p, rfl, hw⟩ ?_ ?_
    · rintro i σ H5 hi ⟨ws2, cs2, p3, p10, p11, rfl, p5, hn, hw2⟩
      have hlen2 := p5.t.length
      have e5 := p5.e
      obtain ⟨x1, c1, ex1, tx1, sx1⟩ := p5.t.last (by omega)
      walk_at "go"
      refine u_pop p5.e ex1 ?_
      have q1 := p5.write p5.t.dropLast
      have tx1 := tx1.mono (Ext.set (u := .lst ws2.dropLast) p5.e trivial)
      have eq1 := q1.e
      have ld1 : ws2.dropLast.length = ws2.length - 1 := List.length_dropLast
      generalize upd H5 tr (.lst ws2.dropLast) = H6 at *
      obtain ⟨x2, c2, ex2, tx2, sx2⟩ := q1.t.last (by omega)
      walk_at "go"
      refine u_pop eq1 ex2 ?_
      have q2 := q1.write q1.t.dropLast
      have tx1 := tx1.mono (Ext.set (u := .lst ws2.dropLast.dropLast) eq1 trivial)
      have tx2 := tx2.mono (Ext.set (u := .lst ws2.dropLast.dropLast) eq1 trivial)
      have ld2 : ws2.dropLast.dropLast.length = ws2.length - 1 - 1 := by rw [List.length_dropLast, ld1]
      clear q1 eq1 ex1 ex2
      generalize upd H6 tr (.lst ws2.dropLast.dropLast) = H7 at *
      have eq2 := q2.e
      walk_at "go"
      refine use_db q2.src tx2 tx1 fun H8 v8 c8 s8 hS8 t8 hc8 => ?_
      have q3 := q2.step s8 hS8
      clear q2 s8 tx1 tx2
      walk_at "go"
      refine u_app q3.e (ls (by omega)) ?_
      have q4 := q3.write (q3.t.snoc t8)
      have e4 := q4.e
      have n4 : (ws2.dropLast.dropLast ++ [v8]).length = ws2.length - 1 := by rw [List.length_append, ld2] <;> simp <;> omega
      have m4 := sum_snoc cs2.dropLast.dropLast c8
      clear q3 t8
      generalize upd H8 tr (.lst (ws2.dropLast.dropLast ++ [v8])) = H9 at *
      walk_at "go"
      refine ⟨ws2.dropLast.dropLast ++ [v8], cs2.dropLast.dropLast ++ [c8], _, _, _, rfl, q4, by omega, ?_⟩
      omega
    · rintro σ H5 ⟨ws2, cs2, p3, p10, p11, rfl, p5, hn, hw2⟩
      have h1l : ws2.length = 1 := by omega
      have e5 := p5.e
      have ei : ws2[0]? = some ws2[0] := List.getElem?_eq_getElem (by omega)
      obtain ⟨c, ec, pp, u, j, s, hv, hsp, hr5, hg, hc⟩ := p5.t.get _ _ ei
      have ea : atI ws2 ((0 : Nat) : Int) = some (.ref pp) := by rw [← hv]; exact atI_nat ei
      have cm := sum_mem (List.mem_of_getElem? ec)
      walk_at "go"
      refine u_ixL (SqL.of e5) ea ?_
      walk_at "go"
      refine u_ixT hsp rfl ?_
      exact q H5 u j s ks p5.sb p5.src hr5 hg (by omega)
end
end Mine

/-! ### H0 -/
namespace Mine
open PySem PySem.Spec L2
/-! ## a program that fits is refused nowhere -/
theorem fits_op {z : Str} (h : z ∈ ops11) : toldFits z [] = true := by
  have k : ∀ y ∈ ops11, toldFits y [] = true := by decide +kernel
  exact k z h
theorem fit1 {z : Str} (h : z ∈ opsSame ∨ z ∈ opsUnit) : toldFits z [] = true ∧ partsFit z 1 = true := by
  have k : ∀ y ∈ opsSame ++ opsUnit, toldFits y [] = true ∧ partsFit y 1 = true := by decide +kernel
  exact k z (by rcases h with h | h <;> simp [h])
theorem fit2 {z : Str} (h : z ∈ opsPair ∨ z = "dot" ∨ z = "outer" ∨ z = "blend" ∨ z = "cat") : toldFits z [] = true ∧ partsFit z 2 = true := by
  have k : ∀ y ∈ opsPair ++ (["dot", "outer", "blend", "cat"] : List Str), toldFits y [] = true ∧ partsFit y 2 = true := by decide +kernel
  exact k z (by rcases h with h | h | h | h | h <;> simp [h])
theorem btw_ok {i lo hi : Int} (h1 : lo ≤ i) (h2 : i ≤ hi) : isBtw (.int i) lo hi = true := by
  show (decide (lo ≤ i) && decide (i ≤ hi)) = true
  rw [decide_eq_true h1, decide_eq_true h2] <;> rfl
/-- one joint fits, told and parts -/
def Fit : Jn → Prop
  | .mk op td parts => toldFits op td = true ∧ partsFit op parts.length = true
theorem Gd.fit {ks : Nat → Int} {j : Jn} {s : Int} (g : Gd ks j s) : ∀ x ∈ j.all, Fit x := by
  induction g with
  | inp i hi h1 h2 =>
    intro x hx
    simp only [Jn.all, Jn.alls, List.mem_singleton] at hx
    subst hx
    refine ⟨?_, by decide +kernel⟩
    rw [fits_in]
    show (isWord (.str (abc i)) && isBtw (.int (ks i)) 1 64) = true
    rw [btw_ok h1 h2, Bool.and_true]
    match i, hi with
    | 0, _ => decide +kernel
    | 1, _ => decide +kernel
    | 2, _ => decide +kernel
    | 3, _ => decide +kernel
  | row ns h1 h2 h =>
    intro x hx
    simp only [Jn.all, Jn.alls, List.mem_singleton] at hx
    subst hx
    refine ⟨?_, by decide +kernel⟩
    rw [fits_row]
    unfold tellsRow rowNums
    rw [List.length_map, decide_eq_true (show (1 : Int) ≤ ns.length by omega), decide_eq_true (show (ns.length : Int) ≤ 64 by omega), Bool.true_and, Bool.true_and, List.all_map, List.all_eq_true]
    exact fun n hn => btw_ok (h n hn).1 (h n hn).2
  | same op h g ih =>
    intro x hx
    simp only [Jn.all, Jn.alls, List.append_nil, List.mem_cons] at hx
    rcases hx with rfl | hx
    · exact fit1 (.inl h)
    · exact ih x hx
  | unit op h g ih =>
    intro x hx
    simp only [Jn.all, Jn.alls, List.append_nil, List.mem_cons] at hx
    rcases hx with rfl | hx
    · exact fit1 (.inr h)
    · exact ih x hx
  | hold n h1 h2 g ih =>
    intro x hx
    simp only [Jn.all, Jn.alls, List.append_nil, List.mem_cons] at hx
    rcases hx with rfl | hx
    · refine ⟨?_, (by decide +kernel : partsFit "hold" ((1 : Nat) : Int) = true)⟩
      rw [fits_hold]
      exact btw_ok h1 h2
    · exact ih x hx
  | part i k h1 h2 h3 g ih =>
    intro x hx
    simp only [Jn.all, Jn.alls, List.append_nil, List.mem_cons] at hx
    have sz := g.sz
    rcases hx with rfl | hx
    · refine ⟨?_, (by decide +kernel : partsFit "part" ((1 : Nat) : Int) = true)⟩
      rw [fits_part]
      show (isBtw (.int k) 0 64 && isBtw (.int i) 0 (k - 1)) = true
      rw [btw_ok (by omega) (by omega), btw_ok (by omega) (by omega)] <;> rfl
    · exact ih x hx
  | rep t h1 h2 h3 g ih =>
    intro x hx
    simp only [Jn.all, Jn.alls, List.append_nil, List.mem_cons] at hx
    rcases hx with rfl | hx
    · refine ⟨?_, (by decide +kernel : partsFit "rep" ((1 : Nat) : Int) = true)⟩
      rw [fits_rep]
      exact btw_ok h1 h2
    · exact ih x hx
  | pair op h g g2 ih1 ih2 =>
    intro x hx
    simp only [Jn.all, Jn.alls, List.append_nil, List.mem_cons, List.mem_append] at hx
    rcases hx with rfl | hx | hx
    · exact fit2 (.inl h)
    · exact ih1 x hx
    · exact ih2 x hx
  | dot g g2 ih1 ih2 =>
    intro x hx
    simp only [Jn.all, Jn.alls, List.append_nil, List.mem_cons, List.mem_append] at hx
    rcases hx with rfl | hx | hx
    · exact fit2 (by simp)
    · exact ih1 x hx
    · exact ih2 x hx
  | outer h g g2 ih1 ih2 =>
    intro x hx
    simp only [Jn.all, Jn.alls, List.append_nil, List.mem_cons, List.mem_append] at hx
    rcases hx with rfl | hx | hx
    · exact fit2 (by simp)
    · exact ih1 x hx
    · exact ih2 x hx
  | blend h g g2 ih1 ih2 =>
    intro x hx
    simp only [Jn.all, Jn.alls, List.append_nil, List.mem_cons, List.mem_append] at hx
    rcases hx with rfl | hx | hx
    · exact fit2 (by simp)
    · exact ih1 x hx
    · exact ih2 x hx
  | cat h g g2 ih1 ih2 =>
    intro x hx
    simp only [Jn.all, Jn.alls, List.append_nil, List.mem_cons, List.mem_append] at hx
    rcases hx with rfl | hx | hx
    · exact fit2 (by simp)
    · exact ih1 x hx
    · exact ih2 x hx
/-- the walk meets no fault -/
theorem jf_fit {x : Jn} {n : Int} (h : Fit x) (h1 : n < 40) : jf x.py n = none := by
  obtain ⟨op, td, parts⟩ := x
  unfold jf
  rw [if_neg (by omega)]
  simp only [Jn.py, h.1, pys_length, h.2, if_true]
theorem partsOf_py {op : Str} {td : List PyData} {parts : List Jn} : partsOf (Jn.mk op td parts).py = Jn.pys parts := by
  simp only [Jn.py, partsOf]
theorem walk_fit : ∀ (k : Nat) (st : List Jn) (n : Int), (∀ x ∈ Jn.alls st, Fit x) → n + Jn.cnts st ≤ 40 → walk k (Jn.pys st) n = none
  | 0, _, _, _, _ => rfl
  | k + 1, [], n, _, _ => by simp only [Jn.pys]; exact walk_none
  | k + 1, .mk op td parts :: r, n, h, hn => by
    simp only [Jn.cnts, Jn.cnt] at hn
    have hf : Fit (.mk op td parts) := h _ (by simp [Jn.alls, Jn.all])
    simp only [Jn.pys]
    rw [walk_step, jf_fit hf (by omega), partsOf_py, ← pys_append]
    refine walk_fit k (parts ++ r) (n + 1) (fun x hx => h x ?_) ?_
    · rw [alls_append] at hx
      simp only [Jn.alls, Jn.all, List.mem_append, List.mem_cons] at hx ⊢
      rcases hx with hx | hx
      · exact .inl (.inr hx)
      · exact .inr hx
    · rw [cnts_append]
      omega
theorem Gd.walk {ks : Nat → Int} {j : Jn} {s : Int} (g : Gd ks j s) (h : j.cnt ≤ 40) : Mine.walk 42 [j.py] 0 = none := by
  have := walk_fit 42 [j] 0 (fun x hx => g.fit x (by simpa [Jn.alls] using hx)) (by simp [Jn.cnts]; omega)
  simpa [Jn.pys] using this
end Mine

/-! ### H1 -/
namespace Mine
open PySem PySem.Spec L2
local macro_rules | `(tactic| walk_at "st") => `(tactic| first
  | ((with_reducible apply rd_var); exact rfl)
  | (with_reducible apply rd_c)
  | (with_reducible apply rd_seq)
  | (with_reducible apply rd_asg)
  | (with_reducible apply rd_gname)
  | (with_reducible apply rd_op)
  | (with_reducible apply rd_cb)
  | (with_reducible apply rd_cons)
  | (with_reducible apply rd_nil)
  | (with_reducible apply rd_if)
  | (with_reducible apply rd_test)
  | (with_reducible apply rd_bl)
  | (with_reducible apply rd_retE)
  | (with_reducible apply rd_ret)
  | (with_reducible apply rd_call)
  | (with_reducible apply rd_tup)
  | (with_reducible apply rd_lst)
  | (with_reducible apply rd_drop)
  | (with_reducible apply rd_next)
  | (with_reducible apply rd_ife)
  | (with_reducible apply rd_gsub)
  | (with_reducible apply rd_par)
  | (with_reducible apply rd_par_end)
  | (with_reducible apply rd_un)
  | (with_reducible apply rd_and)
  | (with_reducible apply rd_or)
  | (with_reducible apply rd_not)
  | (with_reducible apply rd_andV)
  | (with_reducible apply rd_orV)
  | (with_reducible apply rd_notV)
  | (with_reducible apply rd_chain)
  | (with_reducible apply rd_tB)
  | (with_reducible apply rd_brk)
  | (with_reducible apply rd_ct)
  | (with_reducible apply u_add)
  | (with_reducible apply u_sub)
  | (with_reducible apply u_lt)
  | (with_reducible apply u_le)
  | (with_reducible apply u_gt)
  | (with_reducible apply u_ge)
  | (with_reducible apply u_eqI)
  | (with_reducible apply u_eqS)
  | (with_reducible apply u_neI)
  | (with_reducible apply u_int)
  | (with_reducible apply u_intB)
  | (with_reducible apply u_max)
  | (with_reducible apply u_min)
  | (with_reducible apply u_neg)
  | ((with_reducible apply u_mod); focus first | assumption | decide | omega)
  | ((with_reducible apply u_div); focus first | decide | omega | (constructor <;> first | assumption | omega))
  | ((with_reducible apply u_mul); focus first | exact Or.inl (by omega) | exact Or.inr (by omega) | exact Or.inl (by decide) | exact Or.inr (by decide))
  | ((with_reducible apply u_ixL); (focus (first | assumption | exact SqL.of (by assumption) | exact SqL.of upd_same)); exact rfl)
  | ((with_reducible apply u_lenL); focus (first | assumption | exact SqL.of (by assumption) | exact SqL.of upd_same))
  | ((with_reducible apply u_lenT); focus (first | assumption | exact SqT.of (by assumption) | exact SqT.of upd_same))
  | ((with_reducible apply u_setL); (focus (first | assumption | exact upd_same)); exact rfl)
  | (with_reducible apply rd_chain3)
  | (with_reducible apply rd_tru)
  | (with_reducible apply rd_truB)
  | ((with_reducible apply rd_truL); focus (first | assumption | exact SqL.of (by assumption) | exact SqL.of upd_same))
  | (with_reducible apply rd_bm)
  | (with_reducible apply rd_bm0)
  | ((with_reducible apply rd_tyL); focus (first | exact SqL.of (by assumption) | exact SqL.of upd_same))
  | (with_reducible apply u_min3)
  | (with_reducible apply rd_rev)
  | (with_reducible apply rd_iList)
  | (with_reducible apply rd_iTup)
  | (with_reducible apply rd_for)
  | (with_reducible apply rd_rng1)
  | (with_reducible apply rd_rng2)
  | ((with_reducible apply rd_rng1e); (focus omega); (focus omega))
  | ((with_reducible apply rd_rng2e); (focus omega))
  | (with_reducible apply rd_gcons)
  | (with_reducible apply rd_gnil)
  | (with_reducible apply rd_retN)
  | (with_reducible apply g_eqI)
  | (with_reducible apply g_eqS)
  | (with_reducible apply g_neI)
  | (with_reducible apply g_neS)
  | (with_reducible apply g_neB)
  | (with_reducible apply rd_xf)
  | (with_reducible apply rd_raiseE)
  | (with_reducible apply rd_callS)
  | (with_reducible apply u_inD)
  | (with_reducible apply u_notInD)
  | (with_reducible apply u_inS)
  | (with_reducible apply u_notInS)
  | (with_reducible apply rd_iSeq)
  | ((with_reducible apply rd_seqL); (focus first | assumption | exact SqL.of (by assumption) | exact SqL.of upd_same))
  | ((with_reducible apply rd_seqT); (focus first | assumption | exact SqT.of (by assumption) | exact SqT.of upd_same))
  | (with_reducible apply rd_istr)
  | (with_reducible apply rd_istrE)
  | ((with_reducible apply u_isi); (focus (first | exact Or.inl rfl | exact Or.inr (Or.inl rfl) | exact Or.inr (Or.inr (Or.inl rfl)) | exact Or.inr (Or.inr (Or.inr rfl)))); (focus first | assumption | exact Rp.int _ | exact Rp.str _))
  | ((with_reducible apply rd_itL); (focus first | assumption | exact SqL.of (by assumption) | exact SqL.of upd_same))
  | ((with_reducible apply rd_itT); (focus first | assumption | exact SqT.of (by assumption) | exact SqT.of upd_same))
  | (with_reducible apply rd_lc)
  | (with_reducible apply rd_yes)
  | ((with_reducible apply u_pow); (focus (exact ⟨by decide, by decide, by decide⟩)))
  | (with_reducible apply u_mul; focus exact Or.inr cm)
  | (with_reducible apply rd_par3)
  | (with_reducible apply rd_par3_end)
  | ((with_reducible apply rd_aug); exact rfl)
  | (with_reducible apply rd_ipI)
  | (with_reducible apply rd_dnew)
  | (with_reducible apply rd_din)
  | (with_reducible apply rd_dget)
  | (with_reducible apply rd_dput)
  | (with_reducible apply rd_disp1)
  | (with_reducible apply rd_sl)
  | (with_reducible apply rd_part)
  | (with_reducible apply rd_partI)
  | (with_reducible apply rd_nopart)
  | (with_reducible apply iteT)
  | (with_reducible apply iteF))
local macro_rules | `(tactic| walk_at "go") => `(tactic| repeat (walk_at "st"))
local macro_rules | `(tactic| walk_at "sp") => `(tactic| (first | refine rd_split (fun c => ?_) (fun c => ?_) | refine rd_splitN (fun c => ?_) (fun c => ?_) | refine rd_splitB (fun c => ?_) (fun c => ?_)))
local macro_rules | `(tactic| walk_at "nx") => `(tactic| repeat (first | (with_reducible apply iteF) | (with_reducible apply iteT) | (with_reducible apply rd_next)))

section
variable {P : Program} {w : World} {K : PySem.W.Frag} {mg : Str → Option Value} {base : Heap}
theorem Rps.popJ {H : Hp} {xs : List V} {l : Jn} {r : List Jn} (h : Rps K H xs (Jn.pys (l :: r)).reverse) : ∃ u, xs[xs.length - 1]? = some u ∧ Rp K H u l.py ∧ Rps K H xs.dropLast (Jn.pys r).reverse ∧ 0 < xs.length := by
  simp only [Jn.pys, List.reverse_cons] at h
  have hl := h.length
  have e2 : ((Jn.pys r).reverse ++ [l.py])[xs.length - 1]? = some l.py := by
    rw [hl, List.length_append]
    simp
  obtain ⟨u, eu, ru⟩ := h.get e2
  refine ⟨u, eu, ru, ?_, by rw [hl, List.length_append]; simp⟩
  have h3 := h.dropLast
  rw [List.dropLast_concat] at h3
  exact h3
/-- all joints by number, in a tuple -/
def spJts (K : PySem.W.Frag) : Sp := fun vs H Q _ => ∃ (v : V) (j : Jn), vs = [v] ∧ Rp K H v j.py ∧ j.ok ∧ j.cnt ≤ 40 ∧ walk 42 [j.py] 0 = none ∧ ∀ (H' : Hp) (p : Addr) (ws : List V), Same H H' → SqT K H' p ws → Rps K H' ws (Jn.pys j.all) → Q (.ref p) H'
theorem use_jts {v : V} {j : Jn} {H : Hp} {Q : VK} {E : XK} (r : Rp K H v j.py) (h : j.ok) (h1 : j.cnt ≤ 40) (h2 : walk 42 [j.py] 0 = none) (q : ∀ (H' : Hp) (p : Addr) (ws : List V), Same H H' → SqT K H' p ws → Rps K H' ws (Jn.pys j.all) → Q (.ref p) H') : spJts K [v] H Q E := ⟨v, j, rfl, r, h, h1, h2, q⟩
abbrev s_joints : Stmt := top 38
theorem sc_joints : FnScope ["program", "found", "waiting", "joint"] ["program"] (defScope s_joints) := ⟨rfl, rfl, rfl, by decide +kernel, rfl, by decide +kernel, by decide +kernel⟩
theorem has_joints {c : Ecl} (O : OwnF K mg "joints" s_joints) (B : Bl mg) (h_made_program : HasF P w K mg base (L2.CX P w) 8 "made_program" ["thing"] (spMade K c)) : HasF P w K mg base (L2.CX P w) 9 "joints" ["program"] (spJts K) := by
  refine hasX O sc_joints (fun _ _ _ _ _ _ us hl => match us, hl with | [_], _ => rfl) (fun vs H Q E h => ?_) (fun f cdv A outer s_ H vs Q E hr h => ?_)
  · obtain ⟨v, j, rfl, _⟩ := h
    rfl
  obtain ⟨v, j, rfl, r, hok, h40, hw, q⟩ := h
  refine ⟨_, (pss_cons (ps_set (i := 1) sc_joints.nd rfl (by first | exact Or.inl rfl | exact Or.inr rfl) (pe_lst pa_nil)) (pss_cons (ps_set (i := 2) sc_joints.nd rfl (by first | exact Or.inl rfl | exact Or.inr rfl) (pe_lst (pa_cons (pe_callHS h_made_program (hr.mono (by first | decide | omega)) (by rfl) (fun σ => passAt tkX σ) (pa_cons (pv 0) pa_nil)) pa_nil))) (pss_cons (ps_while poX (pt_truthK K (pv 2) (by intro _; rfl)) (pss_cons (ps_set (i := 3) sc_joints.nd rfl (by first | exact Or.inl rfl | exact Or.inr rfl) (pe_bm0K K PySem.F.plainAttrs_list PySem.F.slot_list_pop PySem.F.type_list_pop mt_pop (pv 2))) (pss_cons (ps_expr (pe_bmK K PySem.F.plainAttrs_list PySem.F.slot_list_append PySem.F.type_list_append mt_append (pv 1) (pa_cons (pv 3) pa_nil))) (pss_one (ps_expr (pe_bmK K PySem.F.plainAttrs_list PySem.F.slot_list_extend PySem.F.type_list_extend (kExt K) (pv 2) (pa_cons (pe_revK K (pe_ix (kIx K) (pv 3) pe_int (fun _ _ => rfl))) pa_nil))))))) (pss_one (ps_ret (pe_callTy (kTup K) (by rfl) B.tuple (by decide +kernel) (pa_cons (pv 1) pa_nil))))))), ?_⟩
  refine st0 [some v, none, none, none] rfl ?_
  walk_at "go"
  refine ⟨lk rfl, fun f hf => ?_⟩
  walk_at "go"
  refine use_made (r.mono (Ext.new hf) _ _) (Jn.dat j hok) (fun f' n ef => ?_) (fun _ H1 s1 => ?_)
  · rw [hw] at ef; cases ef
  have sA : Same H H1 := (same_new hf _).trans s1
  have ef1 : H1 f = some (.lst []) := s1 _ _ upd_same
  walk_at "go"
  refine ⟨lk rfl, fun a ha => ?_⟩
  have nfa : f ≠ a := ne_of_none ef1 ha
  have hHa : H a = none := by
    cases hh : H a with
    | none => rfl
    | some o => rw [sA _ _ hh] at ha; cases ha
  walk_at "go"
  refine rd_while (fun m σ H' => ∃ (fws xs : List V) (dn st : List Jn) (o : Option V), σ = [some v, some (.ref f), some (.ref a), o] ∧ Same H H' ∧ H' f = some (.lst fws) ∧ H' a = some (.lst xs) ∧ Rps K H' fws (Jn.pys dn) ∧ Rps K H' xs (Jn.pys st).reverse ∧ Jn.oks st ∧ dn ++ Jn.alls st = j.all ∧ m = Jn.cnts st ∧ Jn.cnts st ≤ 40) j.cnt
    ⟨[], [v], [], [j], none, rfl, Same.new sA ha, by rw [upd_ne nfa]; exact ef1, upd_same, .nil, by simp only [Jn.pys]; exact .one (((r.mono (Ext.new hf) _ _).mono (Ext.of_same s1) _ _).mono (Ext.new ha) _ _), ⟨hok, trivial⟩, by simp [Jn.alls], by simp [Jn.cnts], by simp [Jn.cnts]; exact h40⟩ ?_
  rintro m σ H' ⟨fws, xs, dn, st, o, rfl, s', ef, ea, hF, hR, hks, hd, rfl, hc⟩
  walk_at "go"
  match st, hR, hks, hd, hc with
  | [], hR, hks, hd, hc =>
    cases hR
    refine iteF ?_
    walk_at "go"
    refine u_tupL (SqL.of ef) fun p hp => ?_
    simp only [Jn.alls, List.append_nil] at hd
    rw [← hd] at q
    exact q _ p fws (Same.new s' hp) (SqT.of upd_same) (hF.mono (Ext.new hp) _ _)
  | .mk op td parts :: r0, hR, hks, hd, hc =>
    obtain ⟨u, eu, ru, hR2, hpos⟩ := hR.popJ
    have hne : (!xs.isEmpty) = true := by cases xs with
      | nil => cases hpos
      | cons _ _ => rfl
    have lx := hR2.length
    rw [List.length_reverse, pys_length, List.length_dropLast] at lx
    have lf := hF.length
    rw [pys_length] at lf
    have hks' := hks
    simp only [Jn.oks, Jn.ok] at hks'
    obtain ⟨⟨_, _, _, hp4, hpk⟩, hrk⟩ := hks'
    simp only [Jn.cnts, Jn.cnt] at hc
    have lall := congrArg List.length hd
    rw [List.length_append, alls_cnt, all_cnt] at lall
    have lr : r0.length ≤ Jn.cnts r0 := by
      clear hR hks hd hc hR2 lx hrk lall
      induction r0 with
      | nil => simp
      | cons x r ih => simp only [List.length_cons, Jn.cnts]; have := cnt_pos x; omega
    rw [hne]
    refine iteT ⟨fun σ' H' => ∃ m', m' < Jn.cnts (.mk op td parts :: r0) ∧ _, fun _ _ h => h, ?_⟩
    walk_at "go"
    refine u_pop ea eu ?_
    have xD : Ext K H' (upd H' a (.lst xs.dropLast)) := Ext.set ea trivial
    have s2 : Same H (upd H' a (.lst xs.dropLast)) := Same.upd_new s' hHa
    have ef2 : (upd H' a (.lst xs.dropLast)) f = some (.lst fws) := by rw [upd_ne nfa]; exact ef
    have ea2 : (upd H' a (.lst xs.dropLast)) a = some (.lst xs.dropLast) := upd_same
    have hF2 := hF.mono xD _ _
    have hR3 := hR2.mono xD _ _
    have ru2 := ru.mono xD _ _
    generalize upd H' a (.lst xs.dropLast) = H2 at *
    walk_at "go"
    refine u_app ef2 (ls (by omega)) ?_
    have xE : Ext K H2 (upd H2 f (.lst (fws ++ [u]))) := Ext.set ef2 trivial
    have s3 : Same H (upd H2 f (.lst (fws ++ [u]))) := Same.upd_new s2 hf
    have ea3 : (upd H2 f (.lst (fws ++ [u]))) a = some (.lst xs.dropLast) := by rw [upd_ne nfa.symm]; exact ea2
    have ef3 : (upd H2 f (.lst (fws ++ [u]))) f = some (.lst (fws ++ [u])) := upd_same
    have hF3 := (hF2.mono xE _ _).append (.one (ru2.mono xE _ _))
    have hR4 := hR3.mono xE _ _
    have ru3 := ru2.mono xE _ _
    clear hF2 hR3 ru2 xE xD ef2 ea2 s2
    generalize upd H2 f (.lst (fws ++ [u])) = H3 at *
    obtain ⟨pj, t, qa, tv, pvs, rfl, hsj, _, _, hsq, hRq⟩ := ru3.jn
    have hlq : pvs.length = parts.length := by rw [hRq.length, pys_length]
    walk_at "go"
    refine u_ixT hsj rfl ?_
    refine rd_revT hsq ?_
    intro b hb
    have nab : a ≠ b := ne_of_none ea3 hb
    have nfb : f ≠ b := ne_of_none ef3 hb
    have xB : Ext K H3 (upd H3 b (.tup pvs.reverse)) := Ext.new hb
    have s4 : Same H (upd H3 b (.tup pvs.reverse)) := Same.new s3 hb
    have ea4 : (upd H3 b (.tup pvs.reverse)) a = some (.lst xs.dropLast) := by rw [upd_ne nab]; exact ea3
    have ef4 : (upd H3 b (.tup pvs.reverse)) f = some (.lst (fws ++ [.ref pj])) := by rw [upd_ne nfb]; exact ef3
    have hB : SqT K (upd H3 b (.tup pvs.reverse)) b pvs.reverse := SqT.of upd_same
    have hF5 := hF3.mono xB _ _
    have hR5 := (hR4.mono xB _ _).append (hRq.mono xB _ _).reverse
    generalize upd H3 b (.tup pvs.reverse) = H4 at *
    walk_at "go"
    refine u_extT ea4 hB ?_ ?_
    · rw [List.length_dropLast, List.length_reverse]
      exact ll (by omega)
    have xF : Ext K H4 (upd H4 a (.lst (xs.dropLast ++ pvs.reverse))) := Ext.set ea4 trivial
    walk_at "go"
    refine ⟨_, ?_, fws ++ [.ref pj], xs.dropLast ++ pvs.reverse, dn ++ [.mk op td parts], parts ++ r0, _, rfl, Same.upd_new s4 hHa, by rw [upd_ne nfa]; exact ef4, upd_same, ?_, ?_, oks_append _ _ hpk hrk, ?_, rfl, ?_⟩
    · rw [cnts_append]
      simp only [Jn.cnts, Jn.cnt]
      omega
    · rw [pys_append]
      have h1 : Jn.pys [Jn.mk op td parts] = [(Jn.mk op td parts).py] := pys1
      rw [h1]
      exact hF5.mono xF _ _
    · rw [pys_append, List.reverse_append]
      exact hR5.mono xF _ _
    · rw [alls_append, ← hd]
      simp [Jn.alls, Jn.all, List.append_assoc]
    · rw [cnts_append]
      omega
end
end Mine

/-! ### H2 -/
namespace Mine
open PySem PySem.Spec L2
local macro_rules | `(tactic| walk_at "st") => `(tactic| first
  | ((with_reducible apply rd_var); exact rfl)
  | (with_reducible apply rd_c)
  | (with_reducible apply rd_seq)
  | (with_reducible apply rd_asg)
  | (with_reducible apply rd_gname)
  | (with_reducible apply rd_op)
  | (with_reducible apply rd_cb)
  | (with_reducible apply rd_cons)
  | (with_reducible apply rd_nil)
  | (with_reducible apply rd_if)
  | (with_reducible apply rd_test)
  | (with_reducible apply rd_bl)
  | (with_reducible apply rd_retE)
  | (with_reducible apply rd_ret)
  | (with_reducible apply rd_call)
  | (with_reducible apply rd_tup)
  | (with_reducible apply rd_lst)
  | (with_reducible apply rd_drop)
  | (with_reducible apply rd_next)
  | (with_reducible apply rd_ife)
  | (with_reducible apply rd_gsub)
  | (with_reducible apply rd_par)
  | (with_reducible apply rd_par_end)
  | (with_reducible apply rd_un)
  | (with_reducible apply rd_and)
  | (with_reducible apply rd_or)
  | (with_reducible apply rd_not)
  | (with_reducible apply rd_andV)
  | (with_reducible apply rd_orV)
  | (with_reducible apply rd_notV)
  | (with_reducible apply rd_chain)
  | (with_reducible apply rd_tB)
  | (with_reducible apply rd_brk)
  | (with_reducible apply rd_ct)
  | (with_reducible apply u_add)
  | (with_reducible apply u_sub)
  | (with_reducible apply u_lt)
  | (with_reducible apply u_le)
  | (with_reducible apply u_gt)
  | (with_reducible apply u_ge)
  | (with_reducible apply u_eqI)
  | (with_reducible apply u_eqS)
  | (with_reducible apply u_neI)
  | (with_reducible apply u_int)
  | (with_reducible apply u_intB)
  | (with_reducible apply u_max)
  | (with_reducible apply u_min)
  | (with_reducible apply u_neg)
  | ((with_reducible apply u_mod); focus first | assumption | decide | omega)
  | ((with_reducible apply u_div); focus first | decide | omega | (constructor <;> first | assumption | omega))
  | ((with_reducible apply u_mul); focus first | exact Or.inl (by omega) | exact Or.inr (by omega) | exact Or.inl (by decide) | exact Or.inr (by decide))
  | ((with_reducible apply u_ixL); (focus (first | assumption | exact SqL.of (by assumption) | exact SqL.of upd_same)); exact rfl)
  | ((with_reducible apply u_lenL); focus (first | assumption | exact SqL.of (by assumption) | exact SqL.of upd_same))
  | ((with_reducible apply u_lenT); focus (first | assumption | exact SqT.of (by assumption) | exact SqT.of upd_same))
  | ((with_reducible apply u_setL); (focus (first | assumption | exact upd_same)); exact rfl)
  | (with_reducible apply rd_chain3)
  | (with_reducible apply rd_tru)
  | (with_reducible apply rd_truB)
  | ((with_reducible apply rd_truL); focus (first | assumption | exact SqL.of (by assumption) | exact SqL.of upd_same))
  | (with_reducible apply rd_bm)
  | (with_reducible apply rd_bm0)
  | ((with_reducible apply rd_tyL); focus (first | exact SqL.of (by assumption) | exact SqL.of upd_same))
  | (with_reducible apply u_min3)
  | (with_reducible apply rd_rev)
  | (with_reducible apply rd_iList)
  | (with_reducible apply rd_iTup)
  | (with_reducible apply rd_for)
  | (with_reducible apply rd_rng1)
  | (with_reducible apply rd_rng2)
  | ((with_reducible apply rd_rng1e); (focus omega); (focus omega))
  | ((with_reducible apply rd_rng2e); (focus omega))
  | (with_reducible apply rd_gcons)
  | (with_reducible apply rd_gnil)
  | (with_reducible apply rd_retN)
  | (with_reducible apply g_eqI)
  | (with_reducible apply g_eqS)
  | (with_reducible apply g_neI)
  | (with_reducible apply g_neS)
  | (with_reducible apply g_neB)
  | (with_reducible apply rd_xf)
  | (with_reducible apply rd_raiseE)
  | (with_reducible apply rd_callS)
  | (with_reducible apply u_inD)
  | (with_reducible apply u_notInD)
  | (with_reducible apply u_inS)
  | (with_reducible apply u_notInS)
  | (with_reducible apply rd_iSeq)
  | ((with_reducible apply rd_seqL); (focus first | assumption | exact SqL.of (by assumption) | exact SqL.of upd_same))
  | ((with_reducible apply rd_seqT); (focus first | assumption | exact SqT.of (by assumption) | exact SqT.of upd_same))
  | (with_reducible apply rd_istr)
  | (with_reducible apply rd_istrE)
  | ((with_reducible apply u_isi); (focus (first | exact Or.inl rfl | exact Or.inr (Or.inl rfl) | exact Or.inr (Or.inr (Or.inl rfl)) | exact Or.inr (Or.inr (Or.inr rfl)))); (focus first | assumption | exact Rp.int _ | exact Rp.str _))
  | ((with_reducible apply rd_itL); (focus first | assumption | exact SqL.of (by assumption) | exact SqL.of upd_same))
  | ((with_reducible apply rd_itT); (focus first | assumption | exact SqT.of (by assumption) | exact SqT.of upd_same))
  | (with_reducible apply rd_lc)
  | (with_reducible apply rd_yes)
  | ((with_reducible apply u_pow); (focus (exact ⟨by decide, by decide, by decide⟩)))
  | (with_reducible apply u_mul; focus exact Or.inr cm)
  | (with_reducible apply rd_par3)
  | (with_reducible apply rd_par3_end)
  | ((with_reducible apply rd_aug); exact rfl)
  | (with_reducible apply rd_ipI)
  | (with_reducible apply rd_dnew)
  | (with_reducible apply rd_din)
  | (with_reducible apply rd_dget)
  | (with_reducible apply rd_dput)
  | (with_reducible apply rd_disp1)
  | (with_reducible apply rd_sl)
  | (with_reducible apply rd_part)
  | (with_reducible apply rd_partI)
  | (with_reducible apply rd_nopart)
  | (with_reducible apply iteT)
  | (with_reducible apply iteF))
local macro_rules | `(tactic| walk_at "go") => `(tactic| repeat (walk_at "st"))
local macro_rules | `(tactic| walk_at "sp") => `(tactic| (first | refine rd_split (fun c => ?_) (fun c => ?_) | refine rd_splitN (fun c => ?_) (fun c => ?_) | refine rd_splitB (fun c => ?_) (fun c => ?_)))
local macro_rules | `(tactic| walk_at "nx") => `(tactic| repeat (first | (with_reducible apply iteF) | (with_reducible apply iteT) | (with_reducible apply rd_next)))

section
variable {P : Program} {w : World} {K : PySem.W.Frag} {mg : Str → Option Value} {base : Heap}
mutual
def Jn.ups (w n : Int) : Jn → List Int
  | .mk _ _ parts => w :: Jn.upsl n (n + 1) parts
def Jn.upsl (w n : Int) : List Jn → List Int
  | [] => []
  | j :: r => j.ups w n ++ Jn.upsl w (n + j.cnt) r
end
def upr : List (Jn × Int) → Int → List Int
  | [], _ => []
  | p :: r, n => p.1.ups p.2 n ++ upr r (n + p.1.cnt)
def cntp : List (Jn × Int) → Nat
  | [] => 0
  | p :: r => p.1.cnt + cntp r
theorem upr_app : ∀ (parts : List Jn) (w : Int) (r : List (Jn × Int)) (n : Int), upr (parts.map (fun j => (j, w)) ++ r) n = Jn.upsl w n parts ++ upr r (n + Jn.cnts parts)
  | [], w, r, n => by simp [Jn.upsl, Jn.cnts]
  | j :: p, w, r, n => by
    simp only [List.map_cons, List.cons_append, upr, Jn.upsl, Jn.cnts, upr_app p w r, List.append_assoc]
    rw [show n + ((j.cnt + Jn.cnts p : Nat) : Int) = n + j.cnt + Jn.cnts p by omega]
theorem cntp_app : ∀ (parts : List Jn) (w : Int) (r : List (Jn × Int)), cntp (parts.map (fun j => (j, w)) ++ r) = Jn.cnts parts + cntp r
  | [], w, r => by simp [Jn.cnts]
  | j :: p, w, r => by simp only [List.map_cons, List.cons_append, cntp, Jn.cnts, cntp_app p w r]; omega
theorem cntp_len : ∀ st : List (Jn × Int), st.length ≤ cntp st
  | [] => Nat.le_refl _
  | p :: r => by simp only [List.length_cons, cntp]; have := cnt_pos p.1; have := cntp_len r; omega
theorem pys_rev : ∀ l : List Jn, (Jn.pys l).reverse = Jn.pys l.reverse
  | [] => rfl
  | x :: l => by rw [List.reverse_cons, pys_append, ← pys_rev l]; simp [Jn.pys]
/-- v is a pair of a joint and a number -/
def Pj (K : PySem.W.Frag) (H : Hp) (v : V) (p : Jn × Int) : Prop := ∃ (b : Addr) (u : V), v = .ref b ∧ SqT K H b [u, .int p.2] ∧ Rp K H u p.1.py ∧ p.1.ok
theorem Pj.mono {H H' : Hp} {v : V} {p : Jn × Int} (h : Pj K H v p) (e : Ext K H H') : Pj K H' v p := by
  obtain ⟨b, u, e1, e2, e3, e4⟩ := h
  exact ⟨b, u, e1, e _ _ e2, e3.mono e _ _, e4⟩
/-- xs are pairs, the last one first in st -/
structure Pjs (K : PySem.W.Frag) (H : Hp) (xs : List V) (st : List (Jn × Int)) : Prop where
  length : xs.length = st.length
  get : ∀ (i : Nat) (v : V), xs[i]? = some v → ∃ p, st.reverse[i]? = some p ∧ Pj K H v p
theorem Pjs.mono {H H' : Hp} {xs : List V} {st : List (Jn × Int)} (h : Pjs K H xs st) (e : Ext K H H') : Pjs K H' xs st :=
  ⟨h.length, fun i v hv => by
    obtain ⟨p, e1, e2⟩ := h.get i v hv
    exact ⟨p, e1, e2.mono e⟩⟩
theorem Pjs.pop {H : Hp} {xs : List V} {p : Jn × Int} {r : List (Jn × Int)} (h : Pjs K H xs (p :: r)) : ∃ u, xs[xs.length - 1]? = some u ∧ Pj K H u p ∧ Pjs K H xs.dropLast r := by
  have hl := h.length
  rw [List.length_cons] at hl
  have hk : xs.length - 1 < xs.length := by omega
  obtain ⟨p', e1, e2⟩ := h.get _ _ (List.getElem?_eq_getElem hk)
  rw [hl, List.reverse_cons, List.getElem?_append_right (by rw [List.length_reverse]; omega), List.length_reverse] at e1
  have e3 : p = p' := by simpa using e1
  refine ⟨_, List.getElem?_eq_getElem hk, by rw [e3]; exact e2, by rw [List.length_dropLast, hl] <;> rfl, fun i v hv => ?_⟩
  rw [List.getElem?_dropLast] at hv
  split at hv
  · rename_i hi
    obtain ⟨p2, f1, f2⟩ := h.get i v hv
    rw [List.reverse_cons, List.getElem?_append_left (by rw [List.length_reverse]; omega)] at f1
    exact ⟨p2, f1, f2⟩
  · cases hv
theorem Pjs.app {H : Hp} {xs ys : List V} {st sp : List (Jn × Int)} (h : Pjs K H xs st) (g : Pjs K H ys sp) : Pjs K H (xs ++ ys) (sp ++ st) :=
  ⟨by rw [List.length_append, List.length_append, h.length, g.length]; omega, fun i v hv => by
    rw [List.reverse_append]
    by_cases hi : i < xs.length
    · rw [List.getElem?_append_left hi] at hv
      obtain ⟨p, e1, e2⟩ := h.get i v hv
      exact ⟨p, by rw [List.getElem?_append_left (by rw [List.length_reverse, ← h.length]; exact hi)]; exact e1, e2⟩
    · rw [List.getElem?_append_right (by omega)] at hv
      obtain ⟨p, e1, e2⟩ := g.get _ v hv
      exact ⟨p, by rw [List.getElem?_append_right (by rw [List.length_reverse, ← h.length]; omega), List.length_reverse, ← h.length]; exact e1, e2⟩⟩
theorem ups_len : ∀ (j : Jn) (w n : Int), (j.ups w n).length = j.cnt := by
  intro j
  exact (Jn.rec (motive_1 := fun j => ∀ w n, (j.ups w n).length = j.cnt) (motive_2 := fun l => ∀ w n, (Jn.upsl w n l).length = Jn.cnts l)
    (fun op td parts ih w n => by simp only [Jn.ups, Jn.cnt, List.length_cons, ih]; omega)
    (fun w n => by simp [Jn.upsl, Jn.cnts])
    (fun j r ih1 ih2 w n => by simp only [Jn.upsl, Jn.cnts, List.length_append, ih1, ih2]) j)
abbrev s_above : Stmt := top 39
theorem sc_above : FnScope ["program", "found", "waiting", "joint", "whole", "number", "part"] ["program"] (defScope s_above) := ⟨rfl, rfl, rfl, by decide +kernel, rfl, by decide +kernel, by decide +kernel⟩
def spAbv (K : PySem.W.Frag) : Sp := fun vs H Q _ => ∃ (v : V) (j : Jn), vs = [v] ∧ Rp K H v j.py ∧ j.ok ∧ j.cnt ≤ 40 ∧ walk 42 [j.py] 0 = none ∧ ∀ (H' : Hp) (p : Addr), Same H H' → SqT K H' p ((j.ups (-1) 0).map V.int) → Q (.ref p) H'
theorem use_abv {v : V} {j : Jn} {H : Hp} {Q : VK} {E : XK} (r : Rp K H v j.py) (h : j.ok) (h1 : j.cnt ≤ 40) (h2 : walk 42 [j.py] 0 = none) (q : ∀ (H' : Hp) (p : Addr), Same H H' → SqT K H' p ((j.ups (-1) 0).map V.int) → Q (.ref p) H') : spAbv K [v] H Q E := ⟨v, j, rfl, r, h, h1, h2, q⟩
theorem has_above {c : Ecl} (O : OwnF K mg "above" s_above) (B : Bl mg) (h_made_program : HasF P w K mg base (L2.CX P w) 8 "made_program" ["thing"] (spMade K c)) : HasF P w K mg base (L2.CX P w) 9 "above" ["program"] (spAbv K) := by
  refine hasX O sc_above (fun _ _ _ _ _ _ us hl => match us, hl with | [_], _ => rfl) (fun vs H Q E h => ?_) (fun f cdv A outer s_ H vs Q E hr h => ?_)
  · obtain ⟨v, j, rfl, _⟩ := h
    rfl
  obtain ⟨v, j, rfl, r, hok, h40, hw, q⟩ := h
  refine ⟨_, (pss_cons (ps_set (i := 1) sc_above.nd rfl (by first | exact Or.inl rfl | exact Or.inr rfl) (pe_lst pa_nil)) (pss_cons (ps_set (i := 2) sc_above.nd rfl (by first | exact Or.inl rfl | exact Or.inr rfl) (pe_lst (pa_cons (pe_tup (pa_cons (pe_callHS h_made_program (hr.mono (by first | decide | omega)) (by rfl) (fun σ => passAt tkX σ) (pa_cons (pv 0) pa_nil)) (pa_cons (pe_un un_neg pe_int) pa_nil))) pa_nil))) (pss_cons (ps_while poX (pt_truthK K (pv 2) (by intro _; rfl)) (pss_cons (ps_asg (pe_bm0K K PySem.F.plainAttrs_list PySem.F.slot_list_pop PySem.F.type_list_pop mt_pop (pv 2)) (pg_tupK (n := 2) K rfl (pgs_cons (pg_name (i := 3) sc_above.nd rfl (by first | exact Or.inl rfl | exact Or.inr rfl)) (pgs_cons (pg_name (i := 4) sc_above.nd rfl (by first | exact Or.inl rfl | exact Or.inr rfl)) pgs_nil)))) (pss_cons (ps_set (i := 5) sc_above.nd rfl (by first | exact Or.inl rfl | exact Or.inr rfl) (pe_callB (kLen K) (by rfl) B.len (by decide +kernel) (pa_cons (pv 1) pa_nil))) (pss_cons (ps_expr (pe_bmK K PySem.F.plainAttrs_list PySem.F.slot_list_append PySem.F.type_list_append mt_append (pv 1) (pa_cons (pv 4) pa_nil))) (pss_one (ps_expr (pe_bmK K PySem.F.plainAttrs_list PySem.F.slot_list_extend PySem.F.type_list_extend (kExt K) (pv 2) (pa_cons (pe_lc (own := [("part", 6)]) (g := gName 6) (tt := tYes) rfl sc_above.nd (pi_tupK K (pe_revK K (pe_ix (kIx K) (pv 3) pe_int (fun _ _ => rfl)))) (blkOk_by (own := [("part", 6)]) (N := ["program", "found", "waiting", "joint", "whole", "number", "part"]) (sc := defScope s_above) (by decide +kernel)) (fun _ _ _ _ _ => (pg_name (i := 6) sc_above.nd rfl (by first | exact Or.inl rfl | exact Or.inr rfl))) (fun _ _ _ _ _ => pts_nil) (fun _ _ _ _ _ => (pe_tup (pa_cons (pv 6) (pa_cons (pv 5) pa_nil))))) pa_nil)))))))) (pss_one (ps_ret (pe_callTy (kTup K) (by rfl) B.tuple (by decide +kernel) (pa_cons (pv 1) pa_nil))))))), ?_⟩
  refine st0 [some v, none, none, none, none, none, none] rfl ?_
  walk_at "go"
  refine ⟨lk rfl, fun f hf => ?_⟩
  walk_at "go"
  refine use_made (r.mono (Ext.new hf) _ _) (Jn.dat j hok) (fun f' n ef => ?_) (fun _ H1 s1 => ?_)
  · rw [hw] at ef; cases ef
  have sA : Same H H1 := (same_new hf _).trans s1
  have ef1 : H1 f = some (.lst []) := s1 _ _ upd_same
  have r1 := (r.mono (Ext.new (o := .lst []) hf) _ _).mono (Ext.of_same s1) _ _
  walk_at "go"
  refine ⟨lk rfl, fun t0 ht0 => ?_⟩
  have nft := ne_of_none ef1 ht0
  have sB : Same H (upd H1 t0 (.tup [v, .int (-1)])) := Same.new sA ht0
  have ef2 : (upd H1 t0 (.tup [v, .int (-1)])) f = some (.lst []) := by rw [upd_ne nft]; exact ef1
  have pj0 : Pj K (upd H1 t0 (.tup [v, .int (-1)])) (.ref t0) (j, -1) := ⟨t0, v, rfl, SqT.of upd_same, r1.mono (Ext.new ht0) _ _, hok⟩
  generalize upd H1 t0 (.tup [v, .int (-1)]) = H2 at *
  walk_at "go"
  refine ⟨lk rfl, fun a ha => ?_⟩
  have nfa : f ≠ a := ne_of_none ef2 ha
  have hHa : H a = none := by
    cases hh : H a with
    | none => rfl
    | some o => rw [sB _ _ hh] at ha; cases ha
  walk_at "go"
  refine rd_while (fun m σ H' => ∃ (fs : List Int) (xs : List V) (st : List (Jn × Int)) (o3 o4 o5 o6 : Option V), σ = [some v, some (.ref f), some (.ref a), o3, o4, o5, o6] ∧ Same H H' ∧ H' f = some (.lst (fs.map V.int)) ∧ H' a = some (.lst xs) ∧ Pjs K H' xs st ∧ fs ++ upr st fs.length = j.ups (-1) 0 ∧ m = cntp st ∧ fs.length + cntp st = j.cnt) j.cnt
    ⟨[], [.ref t0], [(j, -1)], none, none, none, none, rfl, Same.new sB ha, by rw [upd_ne nfa]; exact ef2, upd_same, ⟨rfl, fun i x hx => ?_⟩, by simp [upr], by simp [cntp], by simp [cntp]⟩ ?_
  · match i, hx with
    | 0, hx =>
      have e : V.ref t0 = x := by simpa using hx
      rw [← e]
      exact ⟨_, rfl, pj0.mono (Ext.new ha)⟩
    | i + 1, hx => simp at hx
  rintro m σ H' ⟨fs, xs, st, o3, o4, o5, o6, rfl, s', ef, ea, hP, hu, rfl, hc⟩
  have hlx := hP.length
  walk_at "go"
  match st, hP, hu, hc, hlx with
  | [], hP, hu, hc, hlx =>
    have hx : xs = [] := List.eq_nil_of_length_eq_zero hlx
    subst hx
    refine iteF ?_
    walk_at "go"
    refine u_tupL (SqL.of ef) fun p hp => ?_
    simp only [upr, List.append_nil] at hu
    rw [← hu] at q
    exact q _ p (Same.new s' hp) (SqT.of upd_same)
  | (.mk op td parts, w) :: r0, hP, hu, hc, hlx =>
    obtain ⟨u, eu, ⟨b, u1, rfl, hsb, hru, hko⟩, hP2⟩ := hP.pop
    have hne : (!xs.isEmpty) = true := by cases xs with
      | nil => cases hlx
      | cons _ _ => rfl
    rw [hne]
    refine iteT ⟨fun σ' H' => ∃ m', m' < cntp ((.mk op td parts, w) :: r0) ∧ _, fun _ _ h => h, ?_⟩
    walk_at "go"
    refine u_pop ea eu ?_
    have xD : Ext K H' (upd H' a (.lst xs.dropLast)) := Ext.set ea trivial
    have s2 : Same H (upd H' a (.lst xs.dropLast)) := Same.upd_new s' hHa
    have ef2 : (upd H' a (.lst xs.dropLast)) f = some (.lst (fs.map V.int)) := by rw [upd_ne nfa]; exact ef
    have ea2 : (upd H' a (.lst xs.dropLast)) a = some (.lst xs.dropLast) := upd_same
    have hP3 := hP2.mono xD
    have ru2 := hru.mono xD _ _
    have hsb2 := xD _ _ hsb
    generalize upd H' a (.lst xs.dropLast) = H2 at *
    walk_at "go"
    refine rd_gtup hsb2 rfl ?_
    walk_at "go"
    have lfs : fs.length ≤ 40 := by omega
    simp only [cntp, Jn.cnt] at hc
    have hko' := hko
    simp only [Jn.ok] at hko'
    obtain ⟨_, _, _, hp4, hpk⟩ := hko'
    have lr := cntp_len r0
    have lx2 : xs.length = r0.length + 1 := by simpa using hlx
    refine u_app ef2 (by rw [List.length_map]; exact ls (by omega)) ?_
    rw [List.length_map]
    have xE : Ext K H2 (upd H2 f (.lst (fs.map V.int ++ [.int w]))) := Ext.set ef2 trivial
    have s3 : Same H (upd H2 f (.lst (fs.map V.int ++ [.int w]))) := Same.upd_new s2 hf
    have ea3 : (upd H2 f (.lst (fs.map V.int ++ [.int w]))) a = some (.lst xs.dropLast) := by rw [upd_ne nfa.symm]; exact ea2
    have ef3 : (upd H2 f (.lst (fs.map V.int ++ [.int w]))) f = some (.lst (fs.map V.int ++ [.int w])) := upd_same
    have hP4 := hP3.mono xE
    have ru3 := ru2.mono xE _ _
    clear hP3 ru2 xE xD ef2 ea2 s2 hsb2
    generalize upd H2 f (.lst (fs.map V.int ++ [.int w])) = H3 at *
    obtain ⟨pj, t, qa, tv, pvs, rfl, hsj, _, _, hsq, hRq⟩ := ru3.jn
    have hlq : pvs.length = parts.length := by rw [hRq.length, pys_length]
    walk_at "go"
    refine u_ixT hsj rfl ?_
    refine rd_revT hsq ?_
    intro b2 hb2
    have nab : a ≠ b2 := ne_of_none ea3 hb2
    have nfb : f ≠ b2 := ne_of_none ef3 hb2
    have xB : Ext K H3 (upd H3 b2 (.tup pvs.reverse)) := Ext.new hb2
    have s4 : Same H (upd H3 b2 (.tup pvs.reverse)) := Same.new s3 hb2
    have ea4 : (upd H3 b2 (.tup pvs.reverse)) a = some (.lst xs.dropLast) := by rw [upd_ne nab]; exact ea3
    have ef4 : (upd H3 b2 (.tup pvs.reverse)) f = some (.lst (fs.map V.int ++ [.int w])) := by rw [upd_ne nfb]; exact ef3
    have hB : SqT K (upd H3 b2 (.tup pvs.reverse)) b2 pvs.reverse := SqT.of upd_same
    have hP5 := hP4.mono xB
    have hR5 := (hRq.mono xB _ _).reverse
    clear hP4 xB s3 ea3 ef3 hsj hsq hRq
    generalize upd H3 b2 (.tup pvs.reverse) = H4 at *
    walk_at "go"
    intro D hD
    refine lc_tup (K := K) (a := b2) (xs := pvs.reverse) (fun k H' => ∃ ys, H' D = some (.lst ys) ∧ ys.length = k ∧ (∀ (i : Nat) (y : V), ys[i]? = some y → ∃ jx, parts.reverse[i]? = some jx ∧ Pj K H' y (jx, (fs.length : Int))) ∧ Same H4 H') ⟨[], upd_same, rfl, (fun i y hy => by simp at hy), Same.upd_new (Same.refl H4) hD⟩ ?_ ?_ ?_
    · rintro k H5 hk ⟨ys, f1, f2, f3, f4⟩
      exact Ext.of_same f4 _ _ hB
    · rintro k y H5 hy ⟨ys, f1, f2, f3, f4⟩
      have kl : k < pvs.reverse.length := (List.getElem?_eq_some_iff.mp hy).1
      rw [List.length_reverse] at kl
      obtain ⟨dk, k1, k2⟩ := hR5.getV hy
      rw [pys_rev, pys_get] at k1
      obtain ⟨jx, ex, rfl⟩ := Option.map_eq_some_iff.mp k1
      have jm : jx ∈ parts := List.mem_reverse.mp (List.mem_of_getElem? ex)
      walk_at "go"
      refine ⟨rfl, ?_⟩
      walk_at "go"
      refine ⟨lk rfl, fun t9 ht9 => ?_⟩
      have f5 : (upd H5 t9 (.tup [y, .int (fs.length : Int)])) D = some (.lst ys) := by rw [upd_ne (ne_of_none f1 ht9)]; exact f1
      have x5 : Ext K H5 (upd H5 t9 (.tup [y, .int (fs.length : Int)])) := Ext.new ht9
      have pj5 : Pj K (upd H5 t9 (.tup [y, .int (fs.length : Int)])) (.ref t9) (jx, (fs.length : Int)) := ⟨t9, y, rfl, SqT.of upd_same, (k2.mono (Ext.of_same f4) _ _).mono x5 _ _, oks_mem hpk jm⟩
      have s5 : Same H4 (upd H5 t9 (.tup [y, .int (fs.length : Int)])) := Same.new f4 ht9
      generalize upd H5 t9 (.tup [y, .int (fs.length : Int)]) = H6 at *
      have x6 : Ext K H6 (upd H6 D (.lst (ys ++ [.ref t9]))) := Ext.set f5 trivial
      refine ⟨ys, f5, by rw [f2]; exact ls (by omega), ys ++ [.ref t9], upd_same, by rw [List.length_append, f2] <;> rfl, fun i z hz => ?_, Same.upd_new s5 hD⟩
      by_cases hi : i < ys.length
      · rw [List.getElem?_append_left hi] at hz
        obtain ⟨jz, z1, z2⟩ := f3 i z hz
        exact ⟨jz, z1, (z2.mono x5).mono x6⟩
      · rw [List.getElem?_append_right (by omega)] at hz
        have hi2 : i - ys.length = 0 := by
          by_cases h0 : i - ys.length = 0
          · exact h0
          · obtain ⟨n, hn⟩ : ∃ n, i - ys.length = n + 1 := ⟨i - ys.length - 1, by omega⟩
            rw [hn] at hz; simp at hz
        rw [hi2] at hz
        have e : V.ref t9 = z := by simpa using hz
        rw [← e]
        exact ⟨jx, by rw [show i = k by omega]; exact ex, pj5.mono x6⟩
    rintro H5 ⟨ys, f1, f2, f3, f4⟩
    rw [List.length_reverse] at f2
    refine .inl ⟨a, D, xs.dropLast, ys, rfl, rfl, f4 _ _ ea4, f1, ?_, ?_⟩
    · rw [List.length_dropLast]
      exact ll (by omega)
    have xF : Ext K H5 (upd H5 a (.lst (xs.dropLast ++ ys))) := Ext.set (f4 _ _ ea4) trivial
    have g : Pjs K H5 ys (parts.map fun j => (j, (fs.length : Int))) := ⟨by rw [List.length_map, f2, hlq], fun i y hy => by
      obtain ⟨jx, e1, e2⟩ := f3 i y hy
      exact ⟨_, by rw [← List.map_reverse, List.getElem?_map, e1] <;> rfl, e2⟩⟩
    walk_at "go"
    refine ⟨_, ?_, fs ++ [w], xs.dropLast ++ ys, parts.map (fun j => (j, (fs.length : Int))) ++ r0, _, _, _, _, rfl, Same.upd_new (Same.trans s4 f4) hHa, ?_, upd_same, ((hP5.mono (Ext.of_same f4)).app g).mono xF, ?_, rfl, ?_⟩
    · rw [cntp_app]
      simp only [cntp, Jn.cnt]
      omega
    · rw [upd_ne nfa, f4 _ _ ef4, List.map_append] <;> rfl
    · rw [upr_app, ← hu, List.length_append]
      simp only [upr, Jn.ups, List.append_assoc, List.cons_append, List.nil_append, List.length_singleton, Jn.cnt]
      rw [show ((fs.length + 1 : Nat) : Int) = (fs.length : Int) + 1 by omega, show (fs.length : Int) + 1 + Jn.cnts parts = (fs.length : Int) + ((1 + Jn.cnts parts : Nat) : Int) by omega]
    · rw [cntp_app, List.length_append]
      simp only [List.length_singleton]
      omega
end
end Mine

/-! ### H4 -/
namespace Mine
open PySem PySem.Spec L2
local macro_rules | `(tactic| walk_at "st") => `(tactic| first
  | ((with_reducible apply rd_var); exact rfl)
  | (with_reducible apply rd_c)
  | (with_reducible apply rd_seq)
  | (with_reducible apply rd_asg)
  | (with_reducible apply rd_gname)
  | (with_reducible apply rd_op)
  | (with_reducible apply rd_cb)
  | (with_reducible apply rd_cons)
  | (with_reducible apply rd_nil)
  | (with_reducible apply rd_if)
  | (with_reducible apply rd_test)
  | (with_reducible apply rd_bl)
  | (with_reducible apply rd_retE)
  | (with_reducible apply rd_ret)
  | (with_reducible apply rd_call)
  | (with_reducible apply rd_tup)
  | (with_reducible apply rd_lst)
  | (with_reducible apply rd_drop)
  | (with_reducible apply rd_next)
  | (with_reducible apply rd_ife)
  | (with_reducible apply rd_gsub)
  | (with_reducible apply rd_par)
  | (with_reducible apply rd_par_end)
  | (with_reducible apply rd_un)
  | (with_reducible apply rd_and)
  | (with_reducible apply rd_or)
  | (with_reducible apply rd_not)
  | (with_reducible apply rd_andV)
  | (with_reducible apply rd_orV)
  | (with_reducible apply rd_notV)
  | (with_reducible apply rd_chain)
  | (with_reducible apply rd_tB)
  | (with_reducible apply rd_brk)
  | (with_reducible apply rd_ct)
  | (with_reducible apply u_add)
  | (with_reducible apply u_sub)
  | (with_reducible apply u_lt)
  | (with_reducible apply u_le)
  | (with_reducible apply u_gt)
  | (with_reducible apply u_ge)
  | (with_reducible apply u_eqI)
  | (with_reducible apply u_eqS)
  | (with_reducible apply u_neI)
  | (with_reducible apply u_int)
  | (with_reducible apply u_intB)
  | (with_reducible apply u_max)
  | (with_reducible apply u_min)
  | (with_reducible apply u_neg)
  | ((with_reducible apply u_mod); focus first | assumption | decide | omega)
  | ((with_reducible apply u_div); focus first | decide | omega | (constructor <;> first | assumption | omega))
  | ((with_reducible apply u_mul); focus first | exact Or.inl (by omega) | exact Or.inr (by omega) | exact Or.inl (by decide) | exact Or.inr (by decide))
  | ((with_reducible apply u_ixL); (focus (first | assumption | exact SqL.of (by assumption) | exact SqL.of upd_same)); exact rfl)
  | ((with_reducible apply u_lenL); focus (first | assumption | exact SqL.of (by assumption) | exact SqL.of upd_same))
  | ((with_reducible apply u_lenT); focus (first | assumption | exact SqT.of (by assumption) | exact SqT.of upd_same))
  | ((with_reducible apply u_setL); (focus (first | assumption | exact upd_same)); exact rfl)
  | (with_reducible apply rd_chain3)
  | (with_reducible apply rd_tru)
  | (with_reducible apply rd_truB)
  | ((with_reducible apply rd_truL); focus (first | assumption | exact SqL.of (by assumption) | exact SqL.of upd_same))
  | (with_reducible apply rd_bm)
  | (with_reducible apply rd_bm0)
  | ((with_reducible apply rd_tyL); focus (first | exact SqL.of (by assumption) | exact SqL.of upd_same))
  | (with_reducible apply u_min3)
  | (with_reducible apply rd_rev)
  | (with_reducible apply rd_iList)
  | (with_reducible apply rd_iTup)
  | (with_reducible apply rd_for)
  | (with_reducible apply rd_rng1)
  | (with_reducible apply rd_rng2)
  | ((with_reducible apply rd_rng1e); (focus omega); (focus omega))
  | ((with_reducible apply rd_rng2e); (focus omega))
  | (with_reducible apply rd_gcons)
  | (with_reducible apply rd_gnil)
  | (with_reducible apply rd_retN)
  | (with_reducible apply g_eqI)
  | (with_reducible apply g_eqS)
  | (with_reducible apply g_neI)
  | (with_reducible apply g_neS)
  | (with_reducible apply g_neB)
  | (with_reducible apply rd_xf)
  | (with_reducible apply rd_raiseE)
  | (with_reducible apply rd_callS)
  | (with_reducible apply u_inD)
  | (with_reducible apply u_notInD)
  | (with_reducible apply u_inS)
  | (with_reducible apply u_notInS)
  | (with_reducible apply rd_iSeq)
  | ((with_reducible apply rd_seqL); (focus first | assumption | exact SqL.of (by assumption) | exact SqL.of upd_same))
  | ((with_reducible apply rd_seqT); (focus first | assumption | exact SqT.of (by assumption) | exact SqT.of upd_same))
  | (with_reducible apply rd_istr)
  | (with_reducible apply rd_istrE)
  | ((with_reducible apply u_isi); (focus (first | exact Or.inl rfl | exact Or.inr (Or.inl rfl) | exact Or.inr (Or.inr (Or.inl rfl)) | exact Or.inr (Or.inr (Or.inr rfl)))); (focus first | assumption | exact Rp.int _ | exact Rp.str _))
  | ((with_reducible apply rd_itL); (focus first | assumption | exact SqL.of (by assumption) | exact SqL.of upd_same))
  | ((with_reducible apply rd_itT); (focus first | assumption | exact SqT.of (by assumption) | exact SqT.of upd_same))
  | (with_reducible apply rd_lc)
  | (with_reducible apply rd_yes)
  | ((with_reducible apply u_pow); (focus (exact ⟨by decide, by decide, by decide⟩)))
  | (with_reducible apply u_mul; focus exact Or.inr cm)
  | (with_reducible apply rd_par3)
  | (with_reducible apply rd_par3_end)
  | ((with_reducible apply rd_aug); exact rfl)
  | (with_reducible apply rd_ipI)
  | (with_reducible apply rd_dnew)
  | (with_reducible apply rd_din)
  | (with_reducible apply rd_dget)
  | (with_reducible apply rd_dput)
  | (with_reducible apply rd_disp1)
  | (with_reducible apply rd_sl)
  | (with_reducible apply rd_part)
  | (with_reducible apply rd_partI)
  | (with_reducible apply rd_nopart)
  | (with_reducible apply iteT)
  | (with_reducible apply iteF))
local macro_rules | `(tactic| walk_at "go") => `(tactic| repeat (walk_at "st"))
local macro_rules | `(tactic| walk_at "sp") => `(tactic| (first | refine rd_split (fun c => ?_) (fun c => ?_) | refine rd_splitN (fun c => ?_) (fun c => ?_) | refine rd_splitB (fun c => ?_) (fun c => ?_)))
local macro_rules | `(tactic| walk_at "nx") => `(tactic| repeat (first | (with_reducible apply iteF) | (with_reducible apply iteT) | (with_reducible apply rd_next)))

section
variable {P : Program} {w : World} {K : PySem.W.Frag} {mg : Str → Option Value} {base : Heap}
abbrev s_law_over : Stmt := top 66
theorem sc_law_over : FnScope ["program", "left", "found", "turn", "joint", "over", "part"] ["program"] (defScope s_law_over) := ⟨rfl, rfl, rfl, by decide +kernel, rfl, by decide +kernel, by decide +kernel⟩
def spLo (K : PySem.W.Frag) : Sp := fun vs H Q _ => ∃ (v : V) (j : Jn), vs = [v] ∧ Rp K H v j.py ∧ j.ok ∧ j.cnt ≤ 40 ∧ ∀ (H' : Hp) (b : Addr), Same H H' → H b = none → H' b = some (.lst ((j.ups (-1) 0).map V.int)) → Q (.ref b) H'
theorem use_lo {v : V} {j : Jn} {H : Hp} {Q : VK} {E : XK} (r : Rp K H v j.py) (h : j.ok) (h1 : j.cnt ≤ 40) (q : ∀ (H' : Hp) (b : Addr), Same H H' → H b = none → H' b = some (.lst ((j.ups (-1) 0).map V.int)) → Q (.ref b) H') : spLo K [v] H Q E := ⟨v, j, rfl, r, h, h1, q⟩
theorem has_law_over (O : OwnF K mg "_law_over" s_law_over) (B : Bl mg) : HasF P w K mg base CX0 1 "_law_over" ["program"] (spLo K) := by
  refine has0 O sc_law_over (fun _ _ _ _ _ _ us hl => match us, hl with | [_], _ => rfl) (fun vs H Q E h => ?_) (fun f cdv A outer s_ H vs Q E hr h => ?_)
  · obtain ⟨v, j, rfl, _⟩ := h
    rfl
  obtain ⟨v, j, rfl, r, hok, h40, q⟩ := h
  refine ⟨_, (pss_cons (ps_asg (pe_tup (pa_cons (pe_lst (pa_cons (pe_tup (pa_cons (pv 0) (pa_cons (pe_un un_neg pe_int) pa_nil))) pa_nil)) (pa_cons (pe_lst pa_nil) pa_nil))) (pg_tupK (n := 2) K rfl (pgs_cons (pg_name (i := 1) sc_law_over.nd rfl (by first | exact Or.inl rfl | exact Or.inr rfl)) (pgs_cons (pg_name (i := 2) sc_law_over.nd rfl (by first | exact Or.inl rfl | exact Or.inr rfl)) pgs_nil)))) (pss_cons (ps_for PassesOwn.never rfl (pi_range1 (by rfl) B.range (pa_cons pe_int pa_nil)) (pg_name (i := 3) sc_law_over.nd rfl (by first | exact Or.inl rfl | exact Or.inr rfl)) (pss_one (ps_if (pt_truthK K (pv 1) (by intro _; rfl)) (pss_cons (ps_asg (pe_bm0K K PySem.F.plainAttrs_list PySem.F.slot_list_pop PySem.F.type_list_pop mt_pop (pv 1)) (pg_tupK (n := 2) K rfl (pgs_cons (pg_name (i := 4) sc_law_over.nd rfl (by first | exact Or.inl rfl | exact Or.inr rfl)) (pgs_cons (pg_name (i := 5) sc_law_over.nd rfl (by first | exact Or.inl rfl | exact Or.inr rfl)) pgs_nil)))) (pss_cons (ps_set (i := 1) sc_law_over.nd rfl (by first | exact Or.inl rfl | exact Or.inr rfl) (pe_op (kAdd K) (pv 1) (pe_revK K (pe_lc (own := [("part", 6)]) (g := gName 6) (tt := tYes) rfl sc_law_over.nd (pi_tupK K (pe_ix (kIx K) (pv 4) pe_int (fun _ _ => rfl))) (blkOk_by (own := [("part", 6)]) (N := ["program", "left", "found", "turn", "joint", "over", "part"]) (sc := defScope s_law_over) (by decide +kernel)) (fun _ _ _ _ _ => (pg_name (i := 6) sc_law_over.nd rfl (by first | exact Or.inl rfl | exact Or.inr rfl))) (fun _ _ _ _ _ => pts_nil) (fun _ _ _ _ _ => (pe_tup (pa_cons (pv 6) (pa_cons (pe_callB (kLen K) (by rfl) B.len (by decide +kernel) (pa_cons (pv 2) pa_nil)) pa_nil)))))))) (pss_one (ps_expr (pe_bmK K PySem.F.plainAttrs_list PySem.F.slot_list_append PySem.F.type_list_append mt_append (pv 2) (pa_cons (pv 5) pa_nil)))))) pss_nil))) (pss_one (ps_ret (pv 2))))), ?_⟩
  refine st0 [some v, none, none, none, none, none, none] rfl ?_
  walk_at "go"
  refine ⟨lk rfl, fun t0 ht0 => ?_⟩
  have pj0 : Pj K (upd H t0 (.tup [v, .int (-1)])) (.ref t0) (j, -1) := ⟨t0, v, rfl, SqT.of upd_same, r.mono (Ext.new ht0) _ _, hok⟩
  have sA := same_new ht0 (.tup [v, .int (-1)])
  generalize upd H t0 (.tup [v, .int (-1)]) = H1 at *
  walk_at "go"
  refine ⟨lk rfl, fun a0 ha0 => ?_⟩
  have sB : Same H (upd H1 a0 (.lst [.ref t0])) := Same.new sA ha0
  have e0 : (upd H1 a0 (.lst [.ref t0])) a0 = some (.lst [.ref t0]) := upd_same
  have pj1 := pj0.mono (Ext.new (o := .lst [.ref t0]) ha0)
  have hHa0 : H a0 = none := by
    cases hh : H a0 with
    | none => rfl
    | some o => rw [sA _ _ hh] at ha0; cases ha0
  generalize upd H1 a0 (.lst [.ref t0]) = H2 at *
  walk_at "go"
  refine ⟨lk rfl, fun f hf0 => ?_⟩
  have naf : a0 ≠ f := ne_of_none e0 hf0
  have hf : H f = none := by
    cases hh : H f with
    | none => rfl
    | some o => rw [sB _ _ hh] at hf0; cases hf0
  have ef1 : (upd H2 f (.lst [])) f = some (.lst []) := upd_same
  have ea1 : (upd H2 f (.lst [])) a0 = some (.lst [.ref t0]) := by rw [upd_ne naf]; exact e0
  have sC : Same H (upd H2 f (.lst [])) := Same.new sB hf0
  have pj2 := pj1.mono (Ext.new (o := .lst []) hf0)
  generalize upd H2 f (.lst []) = H3 at *
  walk_at "go"
  refine ⟨lk rfl, fun t1 ht1 => ?_⟩
  walk_at "go"
  refine rd_gtup (SqT.of upd_same) rfl ?_
  walk_at "go"
  refine forR (fun i σ H' => ∃ (a : Addr) (fs : List Int) (xs : List V) (st : List (Jn × Int)) (o3 o4 o5 o6 : Option V), σ = [some v, some (.ref a), some (.ref f), o3, o4, o5, o6] ∧ Same H H' ∧ H a = none ∧ a ≠ f ∧ H' f = some (.lst (fs.map V.int)) ∧ H' a = some (.lst xs) ∧ Pjs K H' xs st ∧ fs ++ upr st fs.length = j.ups (-1) 0 ∧ fs.length + cntp st = j.cnt ∧ (st = [] ∨ fs.length = i))
    ⟨a0, [], [.ref t0], [(j, -1)], none, none, none, none, rfl, Same.new sC ht1, hHa0, naf, same_new ht1 _ _ _ ef1, same_new ht1 _ _ _ ea1, ⟨rfl, fun i x hx => ?_⟩, by simp [upr], by simp [cntp], .inr rfl⟩ ?_ ?_
  · match i, hx with
    | 0, hx =>
      have e : V.ref t0 = x := by simpa using hx
      rw [← e]
      exact ⟨_, rfl, pj2.mono (Ext.new ht1)⟩
    | i + 1, hx => simp at hx
  · rintro i σ H' hi ⟨a, fs, xs, st, o3, o4, o5, o6, rfl, s', hHa, naf, ef, ea, hP, hu, hc, hz⟩
    have hlx := hP.length
    walk_at "go"
    match st, hP, hu, hc, hlx, hz with
    | [], hP, hu, hc, hlx, hz =>
      have hx : xs = [] := List.eq_nil_of_length_eq_zero hlx
      subst hx
      refine iteF ?_
      walk_at "go"
      exact ⟨a, fs, [], [], _, _, _, _, rfl, s', hHa, naf, ef, ea, hP, hu, hc, .inl rfl⟩
    | (.mk op td parts, w) :: r0, hP, hu, hc, hlx, hz =>
      have hdi : fs.length = i := hz.resolve_left (by simp)
      obtain ⟨u, eu, ⟨b, u1, rfl, hsb, hru, hko⟩, hP2⟩ := hP.pop
      have hne : (!xs.isEmpty) = true := by cases xs with
        | nil => cases hlx
        | cons _ _ => rfl
      rw [hne]
      refine iteT ?_
      walk_at "go"
      refine u_pop ea eu ?_
      have xD : Ext K H' (upd H' a (.lst xs.dropLast)) := Ext.set ea trivial
      have s2 : Same H (upd H' a (.lst xs.dropLast)) := Same.upd_new s' hHa
      have ef2 : (upd H' a (.lst xs.dropLast)) f = some (.lst (fs.map V.int)) := by rw [upd_ne naf.symm]; exact ef
      have ea2 : (upd H' a (.lst xs.dropLast)) a = some (.lst xs.dropLast) := upd_same
      have hP3 := hP2.mono xD
      have ru2 := hru.mono xD _ _
      have hsb2 := xD _ _ hsb
      generalize upd H' a (.lst xs.dropLast) = H2 at *
      walk_at "go"
      refine rd_gtup hsb2 rfl ?_
      walk_at "go"
      simp only [cntp, Jn.cnt] at hc
      have hko' := hko
      simp only [Jn.ok] at hko'
      obtain ⟨_, _, _, hp4, hpk⟩ := hko'
      have lr := cntp_len r0
      have lx2 : xs.length = r0.length + 1 := by simpa using hlx
      obtain ⟨pj, t, qa, tv, pvs, rfl, hsj, _, _, hsq, hRq⟩ := ru2.jn
      have hlq : pvs.length = parts.length := by rw [hRq.length, pys_length]
      refine u_ixT hsj rfl ?_
      walk_at "go"
      intro D hD
      refine lc_tup (K := K) (a := qa) (xs := pvs) (fun k H' => ∃ ys, H' D = some (.lst ys) ∧ ys.length = k ∧ (∀ (i : Nat) (y : V), ys[i]? = some y → ∃ jx, parts[i]? = some jx ∧ Pj K H' y (jx, (fs.length : Int))) ∧ Same H2 H') ⟨[], upd_same, rfl, (fun i y hy => by simp at hy), Same.upd_new (Same.refl H2) hD⟩ ?_ ?_ ?_
      · rintro k H5 hk ⟨ys, f1, f2, f3, f4⟩
        exact Ext.of_same f4 _ _ hsq
      · rintro k y H5 hy ⟨ys, f1, f2, f3, f4⟩
        have kl : k < pvs.length := (List.getElem?_eq_some_iff.mp hy).1
        obtain ⟨jx, ex, k2⟩ := hRq.part hy
        have jm : jx ∈ parts := List.mem_of_getElem? ex
        walk_at "go"
        refine ⟨rfl, ?_⟩
        walk_at "go"
        refine u_lenL (SqL.of (f4 _ _ ef2)) ?_
        walk_at "go"
        rw [List.length_map]
        refine ⟨lk rfl, fun t9 ht9 => ?_⟩
        have f5 : (upd H5 t9 (.tup [y, .int (fs.length : Int)])) D = some (.lst ys) := by rw [upd_ne (ne_of_none f1 ht9)]; exact f1
        have x5 : Ext K H5 (upd H5 t9 (.tup [y, .int (fs.length : Int)])) := Ext.new ht9
        have pj5 : Pj K (upd H5 t9 (.tup [y, .int (fs.length : Int)])) (.ref t9) (jx, (fs.length : Int)) := ⟨t9, y, rfl, SqT.of upd_same, (k2.mono (Ext.of_same f4) _ _).mono x5 _ _, oks_mem hpk jm⟩
        have s5 : Same H2 (upd H5 t9 (.tup [y, .int (fs.length : Int)])) := Same.new f4 ht9
        generalize upd H5 t9 (.tup [y, .int (fs.length : Int)]) = H6 at *
        have x6 : Ext K H6 (upd H6 D (.lst (ys ++ [.ref t9]))) := Ext.set f5 trivial
        refine ⟨ys, f5, by rw [f2]; exact ls (by omega), ys ++ [.ref t9], upd_same, by rw [List.length_append, f2] <;> rfl, fun i z hz => ?_, Same.upd_new s5 hD⟩
        by_cases hi : i < ys.length
        · rw [List.getElem?_append_left hi] at hz
          obtain ⟨jz, z1, z2⟩ := f3 i z hz
          exact ⟨jz, z1, (z2.mono x5).mono x6⟩
        · rw [List.getElem?_append_right (by omega)] at hz
          have hi2 : i - ys.length = 0 := by
            by_cases h0 : i - ys.length = 0
            · exact h0
            · obtain ⟨n, hn⟩ : ∃ n, i - ys.length = n + 1 := ⟨i - ys.length - 1, by omega⟩
              rw [hn] at hz; simp at hz
          rw [hi2] at hz
          have e : V.ref t9 = z := by simpa using hz
          rw [← e]
          exact ⟨jx, by rw [show i = k by omega]; exact ex, pj5.mono x6⟩
      rintro H5 ⟨ys, f1, f2, f3, f4⟩
      refine rd_revL (SqL.of f1) ?_
      intro b9 hb9
      have nab := ne_of_none (f4 _ _ ea2) hb9
      refine u_addL (by rw [upd_ne nab]; exact f4 _ _ ea2) upd_same ?_ fun p2 hp2 => ?_
      · rw [List.length_dropLast, List.length_reverse]
        exact ll (by omega)
      have xb : Ext K H5 (upd H5 b9 (.lst ys.reverse)) := Ext.new hb9
      have s6 : Same H2 (upd H5 b9 (.lst ys.reverse)) := Same.new f4 hb9
      have g : Pjs K (upd H5 b9 (.lst ys.reverse)) ys.reverse (parts.map fun j => (j, (fs.length : Int))) := ⟨by rw [List.length_map, List.length_reverse, f2, hlq], fun i y hy => by
        rw [← List.map_reverse, List.getElem?_map]
        have hi : i < ys.reverse.length := (List.getElem?_eq_some_iff.mp hy).1
        rw [List.length_reverse] at hi
        rw [List.getElem?_reverse hi] at hy
        obtain ⟨jx, e1, e2⟩ := f3 _ y hy
        refine ⟨_, ?_, e2.mono xb⟩
        rw [List.getElem?_reverse (by omega), show parts.length - 1 - i = ys.length - 1 - i by omega, e1] <;> rfl⟩
      have hP6 := (hP3.mono (Ext.of_same s6)).app g
      have ef6 := s6 _ _ ef2
      have s7 : Same H (upd H5 b9 (.lst ys.reverse)) := s2.trans s6
      generalize upd H5 b9 (.lst ys.reverse) = H6 at *
      have nfp : f ≠ p2 := ne_of_none ef6 hp2
      have ef7 : (upd H6 p2 (.lst (xs.dropLast ++ ys.reverse))) f = some (.lst (fs.map V.int)) := by rw [upd_ne nfp]; exact ef6
      have ep7 : (upd H6 p2 (.lst (xs.dropLast ++ ys.reverse))) p2 = some (.lst (xs.dropLast ++ ys.reverse)) := upd_same
      have hP7 := hP6.mono (Ext.new (o := .lst (xs.dropLast ++ ys.reverse)) hp2)
      have s8 : Same H (upd H6 p2 (.lst (xs.dropLast ++ ys.reverse))) := Same.new s7 hp2
      have hHp : H p2 = none := by
        cases hh : H p2 with
        | none => rfl
        | some o => rw [s7 _ _ hh] at hp2; cases hp2
      generalize upd H6 p2 (.lst (xs.dropLast ++ ys.reverse)) = H7 at *
      walk_at "go"
      refine u_app ef7 (by rw [List.length_map]; exact ls (by omega)) ?_
      walk_at "go"
      refine ⟨p2, fs ++ [w], xs.dropLast ++ ys.reverse, parts.map (fun j => (j, (fs.length : Int))) ++ r0, _, _, _, _, rfl, Same.upd_new s8 hf, hHp, nfp.symm, by rw [upd_same, List.map_append] <;> rfl, by rw [upd_ne nfp.symm]; exact ep7, hP7.mono (Ext.set ef7 trivial), ?_, ?_, .inr (by rw [List.length_append, hdi] <;> rfl)⟩
      · rw [upr_app, ← hu, List.length_append]
        simp only [upr, Jn.ups, List.append_assoc, List.cons_append, List.nil_append, List.length_singleton, Jn.cnt]
        rw [show ((fs.length + 1 : Nat) : Int) = (fs.length : Int) + 1 by omega, show (fs.length : Int) + 1 + Jn.cnts parts = (fs.length : Int) + ((1 + Jn.cnts parts : Nat) : Int) by omega]
      · rw [cntp_app, List.length_append]
        simp only [List.length_singleton]
        omega
  · rintro σ H' ⟨a, fs, xs, st, o3, o4, o5, o6, rfl, s', hHa, naf, ef, ea, hP, hu, hc, hz⟩
    walk_at "go"
    have hst : st = [] := by
      rcases hz with h | h
      · exact h
      · exfalso
        have h2 : fs.length = 200 := h
        omega
    subst hst
    simp only [upr, List.append_nil] at hu
    rw [← hu] at q
    exact q H' f s' hf ef
end
end Mine

/-! ### H5 -/
namespace Mine
open PySem PySem.Spec L2
local macro_rules | `(tactic| walk_at "st") => `(tactic| first
  | ((with_reducible apply rd_var); exact rfl)
  | (with_reducible apply rd_c)
  | (with_reducible apply rd_seq)
  | (with_reducible apply rd_asg)
  | (with_reducible apply rd_gname)
  | (with_reducible apply rd_op)
  | (with_reducible apply rd_cb)
  | (with_reducible apply rd_cons)
  | (with_reducible apply rd_nil)
  | (with_reducible apply rd_if)
  | (with_reducible apply rd_test)
  | (with_reducible apply rd_bl)
  | (with_reducible apply rd_retE)
  | (with_reducible apply rd_ret)
  | (with_reducible apply rd_call)
  | (with_reducible apply rd_tup)
  | (with_reducible apply rd_lst)
  | (with_reducible apply rd_drop)
  | (with_reducible apply rd_next)
  | (with_reducible apply rd_ife)
  | (with_reducible apply rd_gsub)
  | (with_reducible apply rd_par)
  | (with_reducible apply rd_par_end)
  | (with_reducible apply rd_un)
  | (with_reducible apply rd_and)
  | (with_reducible apply rd_or)
  | (with_reducible apply rd_not)
  | (with_reducible apply rd_andV)
  | (with_reducible apply rd_orV)
  | (with_reducible apply rd_notV)
  | (with_reducible apply rd_chain)
  | (with_reducible apply rd_tB)
  | (with_reducible apply rd_brk)
  | (with_reducible apply rd_ct)
  | (with_reducible apply u_add)
  | (with_reducible apply u_sub)
  | (with_reducible apply u_lt)
  | (with_reducible apply u_le)
  | (with_reducible apply u_gt)
  | (with_reducible apply u_ge)
  | (with_reducible apply u_eqI)
  | (with_reducible apply u_eqS)
  | (with_reducible apply u_neI)
  | (with_reducible apply u_int)
  | (with_reducible apply u_intB)
  | (with_reducible apply u_max)
  | (with_reducible apply u_min)
  | (with_reducible apply u_neg)
  | ((with_reducible apply u_mod); focus first | assumption | decide | omega)
  | ((with_reducible apply u_div); focus first | decide | omega | (constructor <;> first | assumption | omega))
  | ((with_reducible apply u_mul); focus first | exact Or.inl (by omega) | exact Or.inr (by omega) | exact Or.inl (by decide) | exact Or.inr (by decide))
  | ((with_reducible apply u_ixL); (focus (first | assumption | exact SqL.of (by assumption) | exact SqL.of upd_same)); exact rfl)
  | ((with_reducible apply u_lenL); focus (first | assumption | exact SqL.of (by assumption) | exact SqL.of upd_same))
  | ((with_reducible apply u_lenT); focus (first | assumption | exact SqT.of (by assumption) | exact SqT.of upd_same))
  | ((with_reducible apply u_setL); (focus (first | assumption | exact upd_same)); exact rfl)
  | (with_reducible apply rd_chain3)
  | (with_reducible apply rd_tru)
  | (with_reducible apply rd_truB)
  | ((with_reducible apply rd_truL); focus (first | assumption | exact SqL.of (by assumption) | exact SqL.of upd_same))
  | (with_reducible apply rd_bm)
  | (with_reducible apply rd_bm0)
  | ((with_reducible apply rd_tyL); focus (first | exact SqL.of (by assumption) | exact SqL.of upd_same))
  | (with_reducible apply u_min3)
  | (with_reducible apply rd_rev)
  | (with_reducible apply rd_iList)
  | (with_reducible apply rd_iTup)
  | (with_reducible apply rd_for)
  | (with_reducible apply rd_rng1)
  | (with_reducible apply rd_rng2)
  | ((with_reducible apply rd_rng1e); (focus omega); (focus omega))
  | ((with_reducible apply rd_rng2e); (focus omega))
  | (with_reducible apply rd_gcons)
  | (with_reducible apply rd_gnil)
  | (with_reducible apply rd_retN)
  | (with_reducible apply g_eqI)
  | (with_reducible apply g_eqS)
  | (with_reducible apply g_neI)
  | (with_reducible apply g_neS)
  | (with_reducible apply g_neB)
  | (with_reducible apply rd_xf)
  | (with_reducible apply rd_raiseE)
  | (with_reducible apply rd_callS)
  | (with_reducible apply u_inD)
  | (with_reducible apply u_notInD)
  | (with_reducible apply u_inS)
  | (with_reducible apply u_notInS)
  | (with_reducible apply rd_iSeq)
  | ((with_reducible apply rd_seqL); (focus first | assumption | exact SqL.of (by assumption) | exact SqL.of upd_same))
  | ((with_reducible apply rd_seqT); (focus first | assumption | exact SqT.of (by assumption) | exact SqT.of upd_same))
  | (with_reducible apply rd_istr)
  | (with_reducible apply rd_istrE)
  | ((with_reducible apply u_isi); (focus (first | exact Or.inl rfl | exact Or.inr (Or.inl rfl) | exact Or.inr (Or.inr (Or.inl rfl)) | exact Or.inr (Or.inr (Or.inr rfl)))); (focus first | assumption | exact Rp.int _ | exact Rp.str _))
  | ((with_reducible apply rd_itL); (focus first | assumption | exact SqL.of (by assumption) | exact SqL.of upd_same))
  | ((with_reducible apply rd_itT); (focus first | assumption | exact SqT.of (by assumption) | exact SqT.of upd_same))
  | (with_reducible apply rd_lc)
  | (with_reducible apply rd_yes)
  | ((with_reducible apply u_pow); (focus (exact ⟨by decide, by decide, by decide⟩)))
  | (with_reducible apply u_mul; focus exact Or.inr cm)
  | (with_reducible apply rd_par3)
  | (with_reducible apply rd_par3_end)
  | ((with_reducible apply rd_aug); exact rfl)
  | (with_reducible apply rd_ipI)
  | (with_reducible apply rd_dnew)
  | (with_reducible apply rd_din)
  | (with_reducible apply rd_dget)
  | (with_reducible apply rd_dput)
  | (with_reducible apply rd_disp1)
  | (with_reducible apply rd_sl)
  | (with_reducible apply rd_part)
  | (with_reducible apply rd_partI)
  | (with_reducible apply rd_nopart)
  | (with_reducible apply iteT)
  | (with_reducible apply iteF))
local macro_rules | `(tactic| walk_at "go") => `(tactic| repeat (walk_at "st"))
local macro_rules | `(tactic| walk_at "sp") => `(tactic| (first | refine rd_split (fun c => ?_) (fun c => ?_) | refine rd_splitN (fun c => ?_) (fun c => ?_) | refine rd_splitB (fun c => ?_) (fun c => ?_)))
local macro_rules | `(tactic| walk_at "nx") => `(tactic| repeat (first | (with_reducible apply iteF) | (with_reducible apply iteT) | (with_reducible apply rd_next)))

section
variable {P : Program} {w : World} {K : PySem.W.Frag} {mg : Str → Option Value} {base : Heap}
abbrev scKin : Scope := { kind := ScopeKind.function, names := [(".0", .local), ("x", .cell), ("range", .globalImplicit), ("len", .globalImplicit), ("over", .cell)], isGenerator := false, isCoroutine := false, more := [] }
abbrev s_law_kin : Stmt := top 67
theorem sc_law_kin : FnScope ["program", "over", "y", "x"] ["program"] (defScope s_law_kin) := ⟨rfl, rfl, rfl, by decide +kernel, rfl, by decide +kernel, by decide +kernel⟩
/-- the numbers of the parts of the joint x -/
def kinN (us : List Int) (x : Nat) : List Nat := (List.range us.length).filter fun y => decide (us[y]? = some (x : Int))
def nV (ns : List Nat) : List V := ns.map fun (n : Nat) => V.int (n : Int)
def Kns (us : List Int) (rows : List V) (H : Hp) (D : Addr) (i : Nat) : Prop := rows.length = i ∧ ∀ x, x < i → ∃ r, rows[x]? = some (.ref r) ∧ r ≠ D ∧ H r = some (.lst (nV (kinN us x)))
/-- the rows are new ones -/
def NewR (H : Hp) (rows : List V) : Prop := ∀ (x : Nat) (r : Addr), rows[x]? = some (.ref r) → H r = none
def spKin (K : PySem.W.Frag) : Sp := fun vs H Q _ => ∃ (v : V) (j : Jn), vs = [v] ∧ Rp K H v j.py ∧ j.ok ∧ j.cnt ≤ 40 ∧ ∀ (H' : Hp) (b : Addr) (rows : List V), Same H H' → H b = none → H' b = some (.lst rows) → Kns (j.ups (-1) 0) rows H' b j.cnt → NewR H rows → Q (.ref b) H'
theorem has_law_kin (O : OwnF K mg "_law_kin" s_law_kin) (B : Bl mg) (h_law_over : HasF P w K mg base CX0 1 "_law_over" ["program"] (spLo K)) : HasF P w K mg base CX0 2 "_law_kin" ["program"] (spKin K) := by
  refine has0 O sc_law_kin (fun _ _ _ _ _ _ us hl => match us, hl with | [_], _ => rfl) (fun vs H Q E h => ?_) (fun f cdv A outer s_ H vs Q E hr h => ?_)
  · obtain ⟨v, j, rfl, _⟩ := h
    rfl
  obtain ⟨v, j, rfl, r, hok, h40, q⟩ := h
  refine ⟨_, (pss_cons (ps_set (i := 1) sc_law_kin.nd rfl (by first | exact Or.inl rfl | exact Or.inr rfl) (pe_callH h_law_over (hr.mono (by first | decide | omega)) (by rfl) pass0 (pa_cons (pv 0) pa_nil))) (pss_one (ps_ret (pe_lc (own := [("x", 3)]) (g := gName 3) (tt := tYes) rfl sc_law_kin.nd (pi_range1 (by rfl) B.range (pa_cons (pe_callB (kLen K) (by rfl) B.len (by decide +kernel) (pa_cons (pv 1) pa_nil)) pa_nil)) (blkOk_by (own := [("x", 3)]) (N := ["program", "over", "y", "x"]) (sc := defScope s_law_kin) (by decide +kernel)) (fun _ _ _ _ _ => (pg_name (i := 3) sc_law_kin.nd rfl (by first | exact Or.inl rfl | exact Or.inr rfl))) (fun _ _ _ _ _ => pts_nil) (fun _ _ _ _ _ => (pe_lc (own := [("y", 2)]) (g := gName 2) (tt := _) rfl sc_law_kin.nd (pi_range1 (by rfl) B.range (pa_cons (pe_callB (kLen K) (by rfl) B.len (by decide +kernel) (pa_cons (pv 1) pa_nil)) pa_nil)) (blkOk_by (own := [("y", 2)]) (N := ["program", "over", "y", "x"]) (sc := scKin) (by decide +kernel)) (fun _ _ _ _ _ => (pg_name (i := 2) sc_law_kin.nd rfl (by first | exact Or.inl rfl | exact Or.inr rfl))) (fun _ _ _ _ _ => (pts_one (pt_cmpR (kEqG K (hU hr)) (pe_ix (kIx K) (pv 1) (pv 2) (fun _ _ => rfl)) (pv 3) (nomark _)))) (fun _ _ _ _ _ => (pv 2)))))))), ?_⟩
  refine st0 [some v, none, none, none] rfl ?_
  walk_at "go"
  refine use_lo r hok h40 fun H1 b s1 hb e1 => ?_
  have hul := ups_len j (-1) 0
  generalize Jn.ups (-1) 0 j = us at *
  walk_at "go"
  rw [List.length_map, hul]
  walk_at "go"
  intro D hD
  have hHD : H D = none := by
    cases hh : H D with
    | none => rfl
    | some o => rw [s1 _ _ hh] at hD; cases hD
  refine lc_range (lo := 0) (n := j.cnt) (fun i H' => ∃ rows, H' D = some (.lst rows) ∧ Kns us rows H' D i ∧ Same H1 H' ∧ NewR H rows) ⟨[], upd_same, ⟨rfl, fun x hx => absurd hx (by omega)⟩, Same.upd_new (Same.refl H1) hD, fun x r hx => by simp at hx⟩ ?_ ?_
  · rintro i H' hi ⟨rows, g1, ⟨g2, g3⟩, g4, g6⟩
    have hi' : i < j.cnt := hi
    walk_at "go"
    refine ⟨rfl, ?_⟩
    walk_at "go"
    refine u_lenL (SqL.of (g4 _ _ e1)) ?_
    walk_at "go"
    rw [List.length_map, hul]
    walk_at "go"
    intro D2 hD2
    have n12 : D ≠ D2 := ne_of_none g1 hD2
    refine lc_range (lo := 0) (n := j.cnt) (fun k H2 => ∃ ns : List Nat, H2 D2 = some (.lst (nV ns)) ∧ ns = (List.range k).filter (fun y => decide (us[y]? = some (i : Int))) ∧ Same H' H2) ⟨[], upd_same, by simp, Same.upd_new (Same.refl H') hD2⟩ ?_ ?_
    · rintro k H2 hk ⟨ns, f1, f2, f3⟩
      have hk' : k < j.cnt := hk
      have lns : ns.length ≤ 40 := by
        have := List.length_filter_le (fun y => decide (us[y]? = some (i : Int))) (List.range k)
        rw [← f2, List.length_range] at this
        omega
      have eu : us[k]? = some us[k] := List.getElem?_eq_getElem (by omega)
      have ea : atI (us.map V.int) (0 + (k : Int)) = some (.int us[k]) := by
        rw [Int.zero_add]
        exact atI_nat (by rw [List.getElem?_map, eu] <;> rfl)
      walk_at "go"
      refine ⟨rfl, ?_⟩
      walk_at "go"
      refine u_ixL (SqL.of (f3 _ _ (g4 _ _ e1))) ea ?_
      walk_at "go"
      refine rd_split (fun c => ?_) (fun c => ?_)
      · walk_at "go"
        refine ⟨_, f1, by unfold nV; rw [List.length_map]; exact ls (by omega), ns ++ [k], ?_, ?_, Same.upd_new f3 hD2⟩
        · rw [upd_same]
          unfold nV
          rw [List.map_append]
          show some (HO.lst (List.map (fun (n : Nat) => V.int (n : Int)) ns ++ [V.int (0 + (k : Int))])) = _
          rw [Int.zero_add] <;> rfl
        · rw [List.range_succ, List.filter_append, f2]
          have : decide (us[k]? = some (i : Int)) = true := decide_eq_true (by rw [eu, c, Int.zero_add])
          rw [List.filter_cons, this] <;> rfl
      · refine ⟨ns, f1, ?_, f3⟩
        rw [List.range_succ, List.filter_append, f2]
        have : decide (us[k]? = some (i : Int)) = false := decide_eq_false (by
          rw [eu]
          intro z
          exact c (by rw [Int.zero_add]; exact Option.some.inj z))
        rw [List.filter_cons, this]
        simp
    rintro H2 ⟨ns, f1, f2, f3⟩
    have g5 := f3 _ _ g1
    refine ⟨rows, g5, by rw [g2]; exact ls (by omega), rows ++ [.ref D2], upd_same, ⟨by rw [List.length_append, g2] <;> rfl, fun x hx => ?_⟩, Same.upd_new (g4.trans f3) hD, fun x r hx => ?_⟩
    rotate_left
    · rcases Nat.lt_or_ge x rows.length with z | z
      · rw [List.getElem?_append_left z] at hx
        exact g6 x r hx
      · rw [List.getElem?_append_right z] at hx
        have hd2 : H D2 = none := by
          cases hh : H D2 with
          | none => rfl
          | some o => rw [g4 _ _ (s1 _ _ hh)] at hD2; cases hD2
        have e : D2 = r := by
          cases hz : x - rows.length with
          | zero => rw [hz] at hx; simpa using hx
          | succ n => rw [hz] at hx; simp at hx
        rw [← e]
        exact hd2
    by_cases hxi : x < i
    · obtain ⟨r, z1, z2, z3⟩ := g3 x hxi
      exact ⟨r, by rw [List.getElem?_append_left (by omega)]; exact z1, z2, by rw [upd_ne z2]; exact f3 _ _ z3⟩
    · have hx2 : x = i := by omega
      subst hx2
      refine ⟨D2, by rw [List.getElem?_append_right (by omega), g2]; simp, n12.symm, ?_⟩
      rw [upd_ne n12.symm, f1, f2]
      unfold kinN
      rw [hul]
  · rintro H2 ⟨rows, g1, g2, g3, g6⟩
    exact q H2 D rows (s1.trans g3) hHD g1 g2 g6
end
end Mine

/-! ### H6 -/
namespace Mine
open PySem PySem.Spec L2
local macro_rules | `(tactic| walk_at "st") => `(tactic| first
  | ((with_reducible apply rd_var); exact rfl)
  | (with_reducible apply rd_c)
  | (with_reducible apply rd_seq)
  | (with_reducible apply rd_asg)
  | (with_reducible apply rd_gname)
  | (with_reducible apply rd_op)
  | (with_reducible apply rd_cb)
  | (with_reducible apply rd_cons)
  | (with_reducible apply rd_nil)
  | (with_reducible apply rd_if)
  | (with_reducible apply rd_test)
  | (with_reducible apply rd_bl)
  | (with_reducible apply rd_retE)
  | (with_reducible apply rd_ret)
  | (with_reducible apply rd_call)
  | (with_reducible apply rd_tup)
  | (with_reducible apply rd_lst)
  | (with_reducible apply rd_drop)
  | (with_reducible apply rd_next)
  | (with_reducible apply rd_ife)
  | (with_reducible apply rd_gsub)
  | (with_reducible apply rd_par)
  | (with_reducible apply rd_par_end)
  | (with_reducible apply rd_un)
  | (with_reducible apply rd_and)
  | (with_reducible apply rd_or)
  | (with_reducible apply rd_not)
  | (with_reducible apply rd_andV)
  | (with_reducible apply rd_orV)
  | (with_reducible apply rd_notV)
  | (with_reducible apply rd_chain)
  | (with_reducible apply rd_tB)
  | (with_reducible apply rd_brk)
  | (with_reducible apply rd_ct)
  | (with_reducible apply u_add)
  | (with_reducible apply u_sub)
  | (with_reducible apply u_lt)
  | (with_reducible apply u_le)
  | (with_reducible apply u_gt)
  | (with_reducible apply u_ge)
  | (with_reducible apply u_eqI)
  | (with_reducible apply u_eqS)
  | (with_reducible apply u_neI)
  | (with_reducible apply u_int)
  | (with_reducible apply u_intB)
  | (with_reducible apply u_max)
  | (with_reducible apply u_min)
  | (with_reducible apply u_neg)
  | ((with_reducible apply u_mod); focus first | assumption | decide | omega)
  | ((with_reducible apply u_div); focus first | decide | omega | (constructor <;> first | assumption | omega))
  | ((with_reducible apply u_mul); focus first | exact Or.inl (by omega) | exact Or.inr (by omega) | exact Or.inl (by decide) | exact Or.inr (by decide))
  | ((with_reducible apply u_ixL); (focus (first | assumption | exact SqL.of (by assumption) | exact SqL.of upd_same)); exact rfl)
  | ((with_reducible apply u_lenL); focus (first | assumption | exact SqL.of (by assumption) | exact SqL.of upd_same))
  | ((with_reducible apply u_lenT); focus (first | assumption | exact SqT.of (by assumption) | exact SqT.of upd_same))
  | ((with_reducible apply u_setL); (focus (first | assumption | exact upd_same)); exact rfl)
  | (with_reducible apply rd_chain3)
  | (with_reducible apply rd_tru)
  | (with_reducible apply rd_truB)
  | ((with_reducible apply rd_truL); focus (first | assumption | exact SqL.of (by assumption) | exact SqL.of upd_same))
  | (with_reducible apply rd_bm)
  | (with_reducible apply rd_bm0)
  | ((with_reducible apply rd_tyL); focus (first | exact SqL.of (by assumption) | exact SqL.of upd_same))
  | (with_reducible apply u_min3)
  | (with_reducible apply rd_rev)
  | (with_reducible apply rd_iList)
  | (with_reducible apply rd_iTup)
  | (with_reducible apply rd_for)
  | (with_reducible apply rd_rng1)
  | (with_reducible apply rd_rng2)
  | ((with_reducible apply rd_rng1e); (focus omega); (focus omega))
  | ((with_reducible apply rd_rng2e); (focus omega))
  | (with_reducible apply rd_gcons)
  | (with_reducible apply rd_gnil)
  | (with_reducible apply rd_retN)
  | (with_reducible apply g_eqI)
  | (with_reducible apply g_eqS)
  | (with_reducible apply g_neI)
  | (with_reducible apply g_neS)
  | (with_reducible apply g_neB)
  | (with_reducible apply rd_xf)
  | (with_reducible apply rd_raiseE)
  | (with_reducible apply rd_callS)
  | (with_reducible apply u_inD)
  | (with_reducible apply u_notInD)
  | (with_reducible apply u_inS)
  | (with_reducible apply u_notInS)
  | (with_reducible apply rd_iSeq)
  | ((with_reducible apply rd_seqL); (focus first | assumption | exact SqL.of (by assumption) | exact SqL.of upd_same))
  | ((with_reducible apply rd_seqT); (focus first | assumption | exact SqT.of (by assumption) | exact SqT.of upd_same))
  | (with_reducible apply rd_istr)
  | (with_reducible apply rd_istrE)
  | ((with_reducible apply u_isi); (focus (first | exact Or.inl rfl | exact Or.inr (Or.inl rfl) | exact Or.inr (Or.inr (Or.inl rfl)) | exact Or.inr (Or.inr (Or.inr rfl)))); (focus first | assumption | exact Rp.int _ | exact Rp.str _))
  | ((with_reducible apply rd_itL); (focus first | assumption | exact SqL.of (by assumption) | exact SqL.of upd_same))
  | ((with_reducible apply rd_itT); (focus first | assumption | exact SqT.of (by assumption) | exact SqT.of upd_same))
  | (with_reducible apply rd_lc)
  | (with_reducible apply rd_yes)
  | ((with_reducible apply u_pow); (focus (exact ⟨by decide, by decide, by decide⟩)))
  | (with_reducible apply u_mul; focus exact Or.inr cm)
  | (with_reducible apply rd_par3)
  | (with_reducible apply rd_par3_end)
  | ((with_reducible apply rd_aug); exact rfl)
  | (with_reducible apply rd_ipI)
  | (with_reducible apply rd_dnew)
  | (with_reducible apply rd_din)
  | (with_reducible apply rd_dget)
  | (with_reducible apply rd_dput)
  | (with_reducible apply rd_disp1)
  | (with_reducible apply rd_sl)
  | (with_reducible apply rd_part)
  | (with_reducible apply rd_partI)
  | (with_reducible apply rd_nopart)
  | (with_reducible apply iteT)
  | (with_reducible apply iteF))
local macro_rules | `(tactic| walk_at "go") => `(tactic| repeat (walk_at "st"))
local macro_rules | `(tactic| walk_at "sp") => `(tactic| (first | refine rd_split (fun c => ?_) (fun c => ?_) | refine rd_splitN (fun c => ?_) (fun c => ?_) | refine rd_splitB (fun c => ?_) (fun c => ?_)))
local macro_rules | `(tactic| walk_at "nx") => `(tactic| repeat (first | (with_reducible apply iteF) | (with_reducible apply iteT) | (with_reducible apply rd_next)))

section
variable {P : Program} {w : World} {K : PySem.W.Frag} {mg : Str → Option Value} {base : Heap}
/-- the size of a joint by what is told and its parts' sizes -/
def szOf (z : Str) (td : List PyData) (ps : List Int) : Option Int :=
  if z = "row" then some td.length else if z = "in" then (match td with | [_, .int k] => some k | _ => none) else if z ∈ ([Str.ofString "sum", Str.ofString "top", Str.ofString "dot"] : List Str) then some 1 else if z = "cat" then some ps.sum
  else if z = "outer" then (match ps with | [a, b] => some (a * b) | _ => none) else if z = "blend" then (match ps with | [a, b] => some (a + b - 1) | _ => none) else if z = "part" then (match td with | [.int i, .int k] => some (k - i) | _ => none)
  else if z = "rep" then (match td, ps with | [.int t], [a] => some (t * a) | _, _ => none) else ps.head?
theorem u_sum {a : Addr} {ns : List Int} {H : Hp} {Q : VK} (s : SqL K H a (ns.map V.int)) (h : Q (.int ns.sum) H) : rSum K [.ref a] H Q := ⟨a, ns, rfl, s, h⟩
abbrev s_size_of : Stmt := top 43
theorem sc_size_of : FnScope ["op", "told", "part_sizes"] ["op", "told", "part_sizes"] (defScope s_size_of) := ⟨rfl, rfl, rfl, by decide +kernel, rfl, by decide +kernel, by decide +kernel⟩
def spSz (K : PySem.W.Frag) : Sp := fun vs H Q _ => ∃ (z : Str) (a b : Addr) (tv : List V) (td : List PyData) (ps : List Int) (s : Int), vs = [.str z, .ref a, .ref b] ∧ SqT K H a tv ∧ Rps K H tv td ∧ SqL K H b (ps.map V.int) ∧ (∀ p ∈ ps, 1 ≤ p ∧ p ≤ 64) ∧ td.length ≤ 64 ∧ szOf z td ps = some s ∧ ∀ H', Same H H' → Q (.int s) H'
theorem has_size_of (O : OwnF K mg "size_of" s_size_of) (B : Bl mg) (BS : mg "sum" = none) : HasF P w K mg base CX0 1 "size_of" ["op", "told", "part_sizes"] (spSz K) := by
  refine has0 O sc_size_of (fun _ _ _ _ _ _ us hl => match us, hl with | [_, _, _], _ => rfl) (fun vs H Q E h => ?_) (fun f cdv A outer s_ H vs Q E hr h => ?_)
  · obtain ⟨z, a, b, tv, td, ps, s, rfl, _⟩ := h
    rfl
  obtain ⟨z, a, b, tv, td, ps, s, rfl, hT, hR, hL, hps, h64, hz, q⟩ := h
  have ltv := hR.length
  unfold szOf at hz
  refine ⟨_, (pss_cons (ps_if (pt_cmpR (kEqG K (hU hr)) (pv 0) pe_str (nomark _)) (pss_one (ps_ret (pe_callB (kLen K) (by rfl) B.len (by decide +kernel) (pa_cons (pv 1) pa_nil)))) pss_nil) (pss_cons (ps_if (pt_cmpR (kEqG K (hU hr)) (pv 0) pe_str (nomark _)) (pss_one (ps_ret (pe_ix (kIx K) (pv 1) pe_int (fun _ _ => rfl)))) pss_nil) (pss_cons (ps_if (pt_cmpR (kIn K) (pv 0) (pe_tup (pa_cons pe_str (pa_cons pe_str (pa_cons pe_str pa_nil)))) (by rfl)) (pss_one (ps_ret pe_int)) pss_nil) (pss_cons (ps_if (pt_cmpR (kEqG K (hU hr)) (pv 0) pe_str (nomark _)) (pss_one (ps_ret (pe_callB (kSum K rfl) (by rfl) BS (by decide +kernel) (pa_cons (pv 2) pa_nil)))) pss_nil) (pss_cons (ps_if (pt_cmpR (kEqG K (hU hr)) (pv 0) pe_str (nomark _)) (pss_one (ps_ret (pe_op (kMul K) (pe_ix (kIx K) (pv 2) pe_int (fun _ _ => rfl)) (pe_ix (kIx K) (pv 2) pe_int (fun _ _ => rfl))))) pss_nil) (pss_cons (ps_if (pt_cmpR (kEqG K (hU hr)) (pv 0) pe_str (nomark _)) (pss_one (ps_ret (pe_op subU (pe_op (kAdd K) (pe_ix (kIx K) (pv 2) pe_int (fun _ _ => rfl)) (pe_ix (kIx K) (pv 2) pe_int (fun _ _ => rfl))) pe_int))) pss_nil) (pss_cons (ps_if (pt_cmpR (kEqG K (hU hr)) (pv 0) pe_str (nomark _)) (pss_one (ps_ret (pe_op subU (pe_ix (kIx K) (pv 1) pe_int (fun _ _ => rfl)) (pe_ix (kIx K) (pv 1) pe_int (fun _ _ => rfl))))) pss_nil) (pss_cons (ps_if (pt_cmpR (kEqG K (hU hr)) (pv 0) pe_str (nomark _)) (pss_one (ps_ret (pe_op (kMul K) (pe_ix (kIx K) (pv 1) pe_int (fun _ _ => rfl)) (pe_ix (kIx K) (pv 2) pe_int (fun _ _ => rfl))))) pss_nil) (pss_one (ps_ret (pe_ix (kIx K) (pv 2) pe_int (fun _ _ => rfl)))))))))))), ?_⟩
  refine st0 [some (.str z), some (.ref a), some (.ref b)] rfl ?_
  walk_at "go"
  refine rd_split (fun c => ?_) (fun c => ?_)
  · rw [if_pos c] at hz
    cases hz
    walk_at "go"
    rw [ltv]
    exact q _ (Same.refl H)
  rw [if_neg c] at hz
  walk_at "go"
  refine rd_split (fun c1 => ?_) (fun c1 => ?_)
  · rw [if_pos c1] at hz
    split at hz
    · rename_i x k
      cases hz
      cases hR with
      | cons r1 r2 =>
        cases r2 with
        | cons r3 r4 =>
          cases r4
          cases r3
          walk_at "go"
          refine u_ixT hT rfl ?_
          exact q _ (Same.refl H)
    · cases hz
  rw [if_neg c1] at hz
  walk_at "go"
  refine ⟨lk rfl, fun p1 hp1 => ?_⟩
  have s1 := same_new hp1 (.tup [V.str (Str.ofString "sum"), .str (Str.ofString "top"), .str (Str.ofString "dot")])
  have m1 : inV (.str z) ([Str.ofString "sum", Str.ofString "top", Str.ofString "dot"].map V.str) = decide (z ∈ ([Str.ofString "sum", Str.ofString "top", Str.ofString "dot"] : List Str)) := inV_str z _
  walk_at "go"
  refine u_inT (xs := [Str.ofString "sum", Str.ofString "top", Str.ofString "dot"].map V.str) (SqT.of upd_same) rfl (flat_strs _) ?_
  rw [m1]
  walk_at "go"
  have hT1 := Ext.of_same (K := K) s1 _ _ hT
  have hL1 : SqL K (upd H p1 (.tup [V.str (Str.ofString "sum"), .str (Str.ofString "top"), .str (Str.ofString "dot")])) b (ps.map V.int) := Same.seq s1 hL
  generalize upd H p1 (.tup [V.str (Str.ofString "sum"), .str (Str.ofString "top"), .str (Str.ofString "dot")]) = H1 at *
  refine rd_split (fun c2 => ?_) (fun c2 => ?_)
  · rw [if_pos c2] at hz
    cases hz
    walk_at "go"
    exact q _ s1
  rw [if_neg c2] at hz
  walk_at "go"
  refine rd_split (fun c3 => ?_) (fun c3 => ?_)
  · rw [if_pos c3] at hz
    cases hz
    walk_at "go"
    exact u_sum hL1 (q _ s1)
  rw [if_neg c3] at hz
  walk_at "go"
  refine rd_split (fun c4 => ?_) (fun c4 => ?_)
  · rw [if_pos c4] at hz
    split at hz
    · rename_i x y
      cases hz
      have bx := hps x (by simp)
      walk_at "go"
      exact q _ s1
    · cases hz
  rw [if_neg c4] at hz
  walk_at "go"
  refine rd_split (fun c5 => ?_) (fun c5 => ?_)
  · rw [if_pos c5] at hz
    split at hz
    · cases hz
      walk_at "go"
      exact q _ s1
    · cases hz
  rw [if_neg c5] at hz
  walk_at "go"
  refine rd_split (fun c6 => ?_) (fun c6 => ?_)
  · rw [if_pos c6] at hz
    split at hz
    · cases hz
      cases hR with
      | cons r1 r2 =>
        cases r2 with
        | cons r3 r4 =>
          cases r4
          cases r3
          cases r1
          walk_at "go"
          refine u_ixT hT1 rfl ?_
          walk_at "go"
          refine u_ixT hT1 rfl ?_
          walk_at "go"
          exact q _ s1
    · cases hz
  rw [if_neg c6] at hz
  walk_at "go"
  refine rd_split (fun c7 => ?_) (fun c7 => ?_)
  · rw [if_pos c7] at hz
    split at hz
    · rename_i t x
      cases hz
      have bx := hps x (by simp)
      cases hR with
      | cons r1 r2 =>
        cases r2
        cases r1
        walk_at "go"
        refine u_ixT hT1 rfl ?_
        walk_at "go"
        exact q _ s1
    · cases hz
  rw [if_neg c7] at hz
  walk_at "go"
  cases ps with
  | nil => cases hz
  | cons x r =>
    cases hz
    exact u_ixL hL1 (show atI ((s :: r).map V.int) ((0 : Nat) : Int) = some (.int s) from atI_nat rfl) (q _ s1)
end
end Mine

/-! ### H8 -/
set_option maxHeartbeats 400000
namespace Mine
open PySem PySem.Spec L2
/-! ## parts by number -/
/-- the numbers of the joints of a row of boughs, the first one's n -/
def tops (n : Nat) : List Jn → List Nat
  | [] => []
  | j :: r => n :: tops (n + j.cnt) r
/-- where x stands, numbered from n on -/
def posn (x : Int) : Nat → List Int → List Nat
  | _, [] => []
  | n, u :: r => if u = x then n :: posn x (n + 1) r else posn x (n + 1) r
theorem posn_app (x : Int) : ∀ (a b : List Int) (n : Nat), posn x n (a ++ b) = posn x n a ++ posn x (n + a.length) b
  | [], b, n => by simp [posn]
  | u :: r, b, n => by
    have e : n + (u :: r).length = n + 1 + r.length := by simp; omega
    simp only [List.cons_append, posn, posn_app x r b (n + 1), e]
    split <;> simp
theorem posn_no {x : Int} : ∀ {a : List Int} {n : Nat}, (∀ u ∈ a, u ≠ x) → posn x n a = []
  | [], _, _ => rfl
  | u :: r, n, h => by
    simp only [posn]
    rw [if_neg (h u List.mem_cons_self)]
    exact posn_no fun y hy => h y (List.mem_cons_of_mem _ hy)
theorem ups_in : ∀ (j : Jn) (w n : Int), ∀ u ∈ j.ups w n, u = w ∨ (n ≤ u ∧ u < n + j.cnt) := by
  intro j
  exact (Jn.rec (motive_1 := fun j => ∀ w n, ∀ u ∈ Jn.ups w n j, u = w ∨ (n ≤ u ∧ u < n + j.cnt)) (motive_2 := fun l => ∀ w n, ∀ u ∈ Jn.upsl w n l, u = w ∨ (n ≤ u ∧ u < n + Jn.cnts l))
    (fun op td parts ih w n u hu => by
      simp only [Jn.ups, List.mem_cons] at hu
      simp only [Jn.cnt]
      rcases hu with rfl | hu
      · exact .inl rfl
      · have := ih n (n + 1) u hu
        omega)
    (fun w n u hu => by simp [Jn.upsl] at hu)
    (fun j r ih1 ih2 w n u hu => by
      simp only [Jn.upsl, List.mem_append] at hu
      simp only [Jn.cnts]
      rcases hu with hu | hu
      · have := ih1 w n u hu; omega
      · have := ih2 w (n + j.cnt) u hu; omega) j)
theorem upsl_in : ∀ (l : List Jn) (w n : Int), ∀ u ∈ Jn.upsl w n l, u = w ∨ (n ≤ u ∧ u < n + Jn.cnts l)
  | [], w, n, u, hu => by simp [Jn.upsl] at hu
  | j :: r, w, n, u, hu => by
    simp only [Jn.upsl, List.mem_append] at hu
    simp only [Jn.cnts]
    rcases hu with hu | hu
    · have := ups_in j w n u hu; omega
    · have := upsl_in r w (n + j.cnt) u hu; omega
theorem posn_top {w : Int} {j : Jn} {n : Nat} (h : w < n) : posn w n (j.ups w n) = [n] := by
  obtain ⟨op, td, parts⟩ := j
  simp only [Jn.ups, posn, if_true]
  rw [posn_no]
  intro u hu
  have := upsl_in parts n (n + 1) u hu
  omega
theorem posn_tops {w : Int} : ∀ (l : List Jn) (n : Nat), w < n → posn w n (Jn.upsl w n l) = tops n l
  | [], n, h => rfl
  | j :: r, n, h => by
    simp only [Jn.upsl, posn_app, tops, posn_top h, ups_len]
    have := posn_tops r (n + j.cnt) (w := w) (by omega)
    rw [show (n : Int) + (j.cnt : Int) = ((n + j.cnt : Nat) : Int) by omega, this] <;> rfl
/-- the numbers of the parts of the joint x -/
theorem kin_at : ∀ (j : Jn) (w : Int) (n x : Nat), w < n → n ≤ x → x < n + j.cnt → ∀ op td parts, j.all[x - n]? = some (.mk op td parts) → posn x n (j.ups w n) = tops (x + 1) parts := by
  intro j
  exact (Jn.rec (motive_1 := fun j => ∀ (w : Int) (n x : Nat), w < n → n ≤ x → x < n + j.cnt → ∀ op td parts, j.all[x - n]? = some (.mk op td parts) → posn x n (j.ups w n) = tops (x + 1) parts)
    (motive_2 := fun l => ∀ (w : Int) (n x : Nat), w < n → n ≤ x → x < n + Jn.cnts l → ∀ op td parts, (Jn.alls l)[x - n]? = some (.mk op td parts) → posn x n (Jn.upsl w n l) = tops (x + 1) parts)
    (fun op td ps ih w n x hw h1 h2 op' td' parts e => by
      simp only [Jn.ups, posn]
      rw [if_neg (by omega)]
      simp only [Jn.all] at e
      simp only [Jn.cnt] at h2
      by_cases hx : x = n
      · subst hx
        rw [Nat.sub_self] at e
        have e' : ps = parts := by
          have := Option.some.inj e
          cases this
          rfl
        subst e'
        have := posn_tops (w := x) ps (x + 1) (by omega)
        rw [show (x : Int) + 1 = ((x + 1 : Nat) : Int) by omega]
        exact this
      · obtain ⟨y, hy⟩ : ∃ y, x - n = y + 1 := ⟨x - n - 1, by omega⟩
        rw [hy, List.getElem?_cons_succ, show y = x - (n + 1) by omega] at e
        have := ih n (n + 1) x (by omega) (by omega) (by omega) op' td' parts e
        rw [show (n : Int) + 1 = ((n + 1 : Nat) : Int) by omega]
        exact this)
    (fun w n x hw h1 h2 op td parts e => by simp [Jn.alls] at e)
    (fun j r ih1 ih2 w n x hw h1 h2 op td parts e => by
      simp only [Jn.upsl, posn_app, ups_len]
      simp only [Jn.cnts] at h2
      simp only [Jn.alls] at e
      rw [show (n : Int) + (j.cnt : Int) = ((n + j.cnt : Nat) : Int) by omega]
      by_cases hx : x < n + j.cnt
      · rw [List.getElem?_append_left (by rw [all_cnt]; omega)] at e
        rw [ih1 w n x hw h1 hx op td parts e, posn_no, List.append_nil]
        intro u hu
        have := upsl_in r w _ u hu
        omega
      · rw [List.getElem?_append_right (by rw [all_cnt]; omega), all_cnt, show x - n - j.cnt = x - (n + j.cnt) by omega] at e
        rw [ih2 w (n + j.cnt) x (by omega) (by omega) (by omega) op td parts e, posn_no, List.nil_append]
        intro u hu
        have := ups_in j w n u hu
        omega) j)
theorem filter_posn (x : Int) : ∀ (us : List Int) (n : Nat), ((List.range us.length).filter fun y => decide (us[y]? = some x)).map (· + n) = posn x n us
  | [], n => rfl
  | u :: r, n => by
    have ih := filter_posn x r (n + 1)
    simp only [posn]
    rw [List.length_cons, List.range_succ_eq_map, List.filter_cons, List.filter_map, ← ih]
    have e0 : decide ((u :: r)[0]? = some x) = decide (u = x) := by simp
    rw [e0]
    have e1 : ((fun y => decide ((u :: r)[y]? = some x)) ∘ Nat.succ) = fun y => decide (r[y]? = some x) := by
      funext y
      simp
    rw [e1]
    by_cases c : u = x
    · simp [c, Function.comp_def, Nat.add_assoc, Nat.add_comm 1 n]
    · simp [c, Function.comp_def, Nat.add_assoc, Nat.add_comm 1 n]
end Mine

/-! ### H9 -/
set_option maxHeartbeats 400000
namespace Mine
open PySem PySem.Spec L2
/-! ## joints and sizes by number -/
theorem tops_len : ∀ (l : List Jn) (n : Nat), (tops n l).length = l.length
  | [], n => rfl
  | j :: r, n => by simp only [tops, List.length_cons, tops_len r]
theorem alls_top : ∀ (l : List Jn) (n i : Nat) (j : Jn), l[i]? = some j → ∃ t, (tops n l)[i]? = some t ∧ n ≤ t ∧ t < n + Jn.cnts l ∧ (Jn.alls l)[t - n]? = some j
  | [], n, i, j, e => by simp at e
  | x :: r, n, 0, j, e => by
    have q : x = j := by simpa using e
    subst q
    have := cnt_pos x
    refine ⟨n, rfl, Nat.le_refl _, by simp only [Jn.cnts]; omega, ?_⟩
    rw [Nat.sub_self]
    obtain ⟨op, td, parts⟩ := x
    simp [Jn.alls, Jn.all]
  | x :: r, n, i + 1, j, e => by
    obtain ⟨t, t1, t2, t3, t4⟩ := alls_top r (n + x.cnt) i j (by simpa using e)
    refine ⟨t, by simpa [tops] using t1, by omega, by simp only [Jn.cnts]; omega, ?_⟩
    simp only [Jn.alls]
    rw [List.getElem?_append_right (by rw [all_cnt]; omega), all_cnt, show t - n - x.cnt = t - (n + x.cnt) by omega]
    exact t4
/-- what stands behind a joint is its parts' joints -/
theorem all_behind : ∀ (j : Jn) (x : Nat) (op : Str) (td : List PyData) (parts : List Jn), j.all[x]? = some (.mk op td parts) → x + Jn.cnts parts < j.cnt ∧ ∀ k, k < Jn.cnts parts → j.all[x + 1 + k]? = (Jn.alls parts)[k]? := by
  intro j
  exact (Jn.rec (motive_1 := fun j => ∀ (x : Nat) (op : Str) (td : List PyData) (parts : List Jn), j.all[x]? = some (.mk op td parts) → x + Jn.cnts parts < j.cnt ∧ ∀ k, k < Jn.cnts parts → j.all[x + 1 + k]? = (Jn.alls parts)[k]?)
    (motive_2 := fun l => ∀ (x : Nat) (op : Str) (td : List PyData) (parts : List Jn), (Jn.alls l)[x]? = some (.mk op td parts) → x + Jn.cnts parts < Jn.cnts l ∧ ∀ k, k < Jn.cnts parts → (Jn.alls l)[x + 1 + k]? = (Jn.alls parts)[k]?)
    (fun op td ps ih x op' td' parts e => by
      simp only [Jn.all, Jn.cnt] at e ⊢
      cases x with
      | zero =>
        have e' := Option.some.inj e
        cases e'
        exact ⟨by omega, fun k hk => by rw [show 0 + 1 + k = k + 1 by omega, List.getElem?_cons_succ]⟩
      | succ y =>
        rw [List.getElem?_cons_succ] at e
        obtain ⟨b1, b2⟩ := ih y op' td' parts e
        exact ⟨by omega, fun k hk => by
          rw [show y + 1 + 1 + k = (y + 1 + k) + 1 by omega, List.getElem?_cons_succ]
          exact b2 k hk⟩)
    (fun x op td parts e => by simp [Jn.alls] at e)
    (fun j r ih1 ih2 x op td parts e => by
      simp only [Jn.alls, Jn.cnts] at e ⊢
      by_cases hx : x < j.cnt
      · rw [List.getElem?_append_left (by rw [all_cnt]; exact hx)] at e
        obtain ⟨b1, b2⟩ := ih1 x op td parts e
        exact ⟨by omega, fun k hk => by
          rw [List.getElem?_append_left (by rw [all_cnt]; omega)]
          exact b2 k hk⟩
      · rw [List.getElem?_append_right (by rw [all_cnt]; omega), all_cnt] at e
        obtain ⟨b1, b2⟩ := ih2 _ op td parts e
        exact ⟨by omega, fun k hk => by
          rw [List.getElem?_append_right (by rw [all_cnt]; omega), all_cnt, show x + 1 + k - j.cnt = x - j.cnt + 1 + k by omega]
          exact b2 k hk⟩) j)
/-- the parts of the joint x stand at their numbers -/
theorem part_at {j : Jn} {x i : Nat} {op : Str} {td : List PyData} {parts : List Jn} {p : Jn} (h : j.all[x]? = some (.mk op td parts)) (hp : parts[i]? = some p) : ∃ t, (tops (x + 1) parts)[i]? = some t ∧ x < t ∧ t < j.cnt ∧ j.all[t]? = some p := by
  obtain ⟨b1, b2⟩ := all_behind j x op td parts h
  obtain ⟨t, t1, t2, t3, t4⟩ := alls_top parts (x + 1) i p hp
  refine ⟨t, t1, by omega, by omega, ?_⟩
  have := b2 (t - (x + 1)) (by omega)
  rw [show x + 1 + (t - (x + 1)) = t by omega, t4] at this
  exact this
/-! ## the sizes -/
/-- every joint of a program that fits has its size -/
theorem Gd.sub {ks : Nat → Int} {j : Jn} {s : Int} (g : Gd ks j s) : ∀ x ∈ j.all, ∃ t, Gd ks x t := by
  have top : ∀ {j : Jn} {s : Int}, Gd ks j s → ∀ (op : Str) (td : List PyData) (l : List Jn), (∀ p ∈ l, ∀ x ∈ p.all, ∃ t, Gd ks x t) → j = .mk op td l → ∀ x ∈ j.all, ∃ t, Gd ks x t := by
    intro j s g op td l hl e x hx
    subst e
    simp only [Jn.all, List.mem_cons] at hx
    rcases hx with rfl | hx
    · exact ⟨s, g⟩
    · clear g
      induction l with
      | nil => simp [Jn.alls] at hx
      | cons p r ih =>
        simp only [Jn.alls, List.mem_append] at hx
        rcases hx with hx | hx
        · exact hl p List.mem_cons_self x hx
        · exact ih (fun q hq => hl q (List.mem_cons_of_mem _ hq)) hx
  have l1 : ∀ {j : Jn}, (∀ x ∈ j.all, ∃ t, Gd ks x t) → ∀ p ∈ [j], ∀ x ∈ p.all, ∃ t, Gd ks x t := fun h p hp => by
    rw [show p = _ by simpa using hp]; exact h
  have l2 : ∀ {j l : Jn}, (∀ x ∈ j.all, ∃ t, Gd ks x t) → (∀ x ∈ l.all, ∃ t, Gd ks x t) → ∀ p ∈ [j, l], ∀ x ∈ p.all, ∃ t, Gd ks x t := fun h k p hp => by
    simp only [List.mem_cons, List.not_mem_nil, or_false] at hp
    rcases hp with rfl | rfl
    · exact h
    · exact k
  induction g with
  | inp i hi h1 h2 => exact top (.inp i hi h1 h2) _ _ _ (fun _ z => by cases z) rfl
  | row ns h1 h2 h => exact top (.row ns h1 h2 h) _ _ _ (fun _ z => by cases z) rfl
  | same op h g ih => exact top (.same op h g) _ _ _ (l1 ih) rfl
  | unit op h g ih => exact top (.unit op h g) _ _ _ (l1 ih) rfl
  | hold n h1 h2 g ih => exact top (.hold n h1 h2 g) _ _ _ (l1 ih) rfl
  | part i k h1 h2 h3 g ih => exact top (.part i k h1 h2 h3 g) _ _ _ (l1 ih) rfl
  | rep t h1 h2 h3 g ih => exact top (.rep t h1 h2 h3 g) _ _ _ (l1 ih) rfl
  | pair op h g g2 ih1 ih2 => exact top (.pair op h g g2) _ _ _ (l2 ih1 ih2) rfl
  | dot g g2 ih1 ih2 => exact top (.dot g g2) _ _ _ (l2 ih1 ih2) rfl
  | outer h g g2 ih1 ih2 => exact top (.outer h g g2) _ _ _ (l2 ih1 ih2) rfl
  | blend h g g2 ih1 ih2 => exact top (.blend h g g2) _ _ _ (l2 ih1 ih2) rfl
  | cat h g g2 ih1 ih2 => exact top (.cat h g g2) _ _ _ (l2 ih1 ih2) rfl
end Mine

/-! ### HA -/
set_option maxHeartbeats 400000
namespace Mine
open PySem PySem.Spec L2
theorem ne_same {op : Str} (h : op ∈ opsSame) : op ≠ "row" ∧ op ≠ "in" ∧ op ∉ ([Str.ofString "sum", Str.ofString "top", Str.ofString "dot"] : List Str) ∧ op ≠ "outer" ∧ op ≠ "blend" ∧ op ≠ "part" ∧ op ≠ "rep" := by
  have k : ∀ y ∈ opsSame, y ≠ "row" ∧ y ≠ "in" ∧ y ∉ ([Str.ofString "sum", Str.ofString "top", Str.ofString "dot"] : List Str) ∧ y ≠ "outer" ∧ y ≠ "blend" ∧ y ≠ "part" ∧ y ≠ "rep" := by decide +kernel
  exact k op h
theorem sz_same {op : Str} {s : Int} (h : op ∈ opsSame) : szOf op [] [s] = some s := by
  obtain ⟨h1, h2, h3, h4, h5, h6, h7⟩ := ne_same h
  unfold szOf
  rw [if_neg h1, if_neg h2, if_neg h3]
  split
  · simp
  · rfl
theorem sz_unit {op : Str} {s : Int} (h : op ∈ opsUnit) : szOf op [] [s] = some 1 := by
  have k : ∀ y ∈ opsUnit, y ≠ "row" ∧ y ≠ "in" ∧ y ∈ ([Str.ofString "sum", Str.ofString "top", Str.ofString "dot"] : List Str) := by decide +kernel
  obtain ⟨h1, h2, h3⟩ := k op h
  unfold szOf
  rw [if_neg h1, if_neg h2, if_pos h3]
theorem sz_pair {op : Str} {s : Int} (h : op ∈ opsPair) : szOf op [] [s, s] = some s := by
  have k : ∀ y ∈ opsPair, y ≠ "row" ∧ y ≠ "in" ∧ y ∉ ([Str.ofString "sum", Str.ofString "top", Str.ofString "dot"] : List Str) ∧ y ≠ "cat" ∧ y ≠ "outer" ∧ y ≠ "blend" ∧ y ≠ "part" ∧ y ≠ "rep" := by decide +kernel
  obtain ⟨h1, h2, h3, h4, h5, h6, h7, h8⟩ := k op h
  unfold szOf
  rw [if_neg h1, if_neg h2, if_neg h3, if_neg h4, if_neg h5, if_neg h6, if_neg h7, if_neg h8] <;> rfl
/-- sizes of a row of programs that fit -/
inductive Gds (ks : Nat → Int) : List Jn → List Int → Prop
  | nil : Gds ks [] []
  | cons {j : Jn} {s : Int} {l : List Jn} {ps : List Int} : Gd ks j s → Gds ks l ps → Gds ks (j :: l) (s :: ps)
theorem Gd.step {ks : Nat → Int} {op : Str} {td : List PyData} {parts : List Jn} {s : Int} (g : Gd ks (.mk op td parts) s) : ∃ ps, Gds ks parts ps ∧ szOf op td ps = some s := by
  cases g with
  | inp i hi h1 h2 => exact ⟨[], .nil, rfl⟩
  | row ns h1 h2 h => exact ⟨[], .nil, by show some ((ns.map PyData.int).length : Int) = _; rw [List.length_map]⟩
  | same op h g => exact ⟨[_], .cons g .nil, sz_same h⟩
  | unit op h g => exact ⟨[_], .cons g .nil, sz_unit h⟩
  | hold n h1 h2 g => exact ⟨[_], .cons g .nil, rfl⟩
  | part i k h1 h2 h3 g => exact ⟨[_], .cons g .nil, rfl⟩
  | rep t h1 h2 h3 g => exact ⟨[_], .cons g .nil, by rw [Int.mul_comm] <;> rfl⟩
  | pair op h g g2 => exact ⟨[_, _], .cons g (.cons g2 .nil), sz_pair h⟩
  | dot g g2 => exact ⟨[_, _], .cons g (.cons g2 .nil), rfl⟩
  | outer h g g2 => exact ⟨[_, _], .cons g (.cons g2 .nil), rfl⟩
  | blend h g g2 => exact ⟨[_, _], .cons g (.cons g2 .nil), rfl⟩
  | cat h g g2 => exact ⟨[_, _], .cons g (.cons g2 .nil), by show some ([_, _] : List Int).sum = _; simp⟩
/-- a program that fits has one size -/
theorem Gd.one {ks : Nat → Int} {j : Jn} {s : Int} (g : Gd ks j s) : ∀ {t : Int}, Gd ks j t → s = t := by
  have k : ∀ {op : Str} {td : List PyData} {parts : List Jn} {s t : Int}, (∀ {ps qs : List Int}, Gds ks parts ps → Gds ks parts qs → ps = qs) → Gd ks (.mk op td parts) s → Gd ks (.mk op td parts) t → s = t := by
    intro op td parts s t h g1 g2
    obtain ⟨ps, a1, a2⟩ := g1.step
    obtain ⟨qs, b1, b2⟩ := g2.step
    rw [h a1 b1, b2] at a2
    exact (Option.some.inj a2).symm
  have p0 : ∀ {ps qs : List Int}, Gds ks [] ps → Gds ks [] qs → ps = qs := fun a b => by cases a; cases b; rfl
  have p1 : ∀ {j : Jn} {s : Int}, (∀ {t : Int}, Gd ks j t → s = t) → ∀ {ps qs : List Int}, Gds ks [j] ps → Gds ks [j] qs → ps = qs := by
    intro j s ih ps qs a b
    cases a with
    | cons a1 a2 =>
      cases a2
      cases b with
      | cons b1 b2 =>
        cases b2
        rw [← ih a1, ← ih b1]
  have p2 : ∀ {j l : Jn} {s r : Int}, (∀ {t : Int}, Gd ks j t → s = t) → (∀ {t : Int}, Gd ks l t → r = t) → ∀ {ps qs : List Int}, Gds ks [j, l] ps → Gds ks [j, l] qs → ps = qs := by
    intro j l s r ih ih2 ps qs a b
    cases a with
    | cons a1 a2 =>
      cases a2 with
      | cons a3 a4 =>
        cases a4
        cases b with
        | cons b1 b2 =>
          cases b2 with
          | cons b3 b4 =>
            cases b4
            rw [← ih a1, ← ih b1, ← ih2 a3, ← ih2 b3]
  induction g with
  | inp i hi h1 h2 => exact fun x => k p0 (.inp i hi h1 h2) x
  | row ns h1 h2 h => exact fun x => k p0 (.row ns h1 h2 h) x
  | same op h g ih => exact fun x => k (p1 ih) (.same op h g) x
  | unit op h g ih => exact fun x => k (p1 ih) (.unit op h g) x
  | hold n h1 h2 g ih => exact fun x => k (p1 ih) (.hold n h1 h2 g) x
  | part i k2 h1 h2 h3 g ih => exact fun x => k (p1 ih) (.part i k2 h1 h2 h3 g) x
  | rep t h1 h2 h3 g ih => exact fun x => k (p1 ih) (.rep t h1 h2 h3 g) x
  | pair op h g g2 ih1 ih2 => exact fun x => k (p2 ih1 ih2) (.pair op h g g2) x
  | dot g g2 ih1 ih2 => exact fun x => k (p2 ih1 ih2) (.dot g g2) x
  | outer h g g2 ih1 ih2 => exact fun x => k (p2 ih1 ih2) (.outer h g g2) x
  | blend h g g2 ih1 ih2 => exact fun x => k (p2 ih1 ih2) (.blend h g g2) x
  | cat h g g2 ih1 ih2 => exact fun x => k (p2 ih1 ih2) (.cat h g g2) x
end Mine

/-! ### I0 -/
set_option maxHeartbeats 400000
namespace Mine
open PySem PySem.Spec L2
/-! ## sizes by number -/
theorem lt_of_get {α : Type} {l : List α} {k : Nat} {e : α} (h : l[k]? = some e) : k < l.length := by
  rcases Nat.lt_or_ge k l.length with z | z
  · exact z
  · rw [List.getElem?_eq_none z] at h
    cases h
theorem kinN_tops {j : Jn} {x : Nat} {op : Str} {td : List PyData} {parts : List Jn} (h : j.all[x]? = some (.mk op td parts)) : kinN (j.ups (-1) 0) x = tops (x + 1) parts := by
  have hx := lt_of_get h
  rw [all_cnt] at hx
  have e := filter_posn (x : Int) (j.ups (-1) 0) 0
  simp only [Nat.add_zero, List.map_id'] at e
  unfold kinN
  rw [e]
  exact kin_at j (-1) 0 x (by omega) (Nat.zero_le _) (by omega) op td parts h
theorem gds_ex {ks : Nat → Int} : ∀ {l : List Jn}, (∀ x ∈ l, ∃ t, Gd ks x t) → ∃ ss, Gds ks l ss
  | [], _ => ⟨[], .nil⟩
  | j :: r, h => by
    obtain ⟨t, ht⟩ := h j List.mem_cons_self
    obtain ⟨ss, hs⟩ := gds_ex (l := r) fun x hx => h x (List.mem_cons_of_mem _ hx)
    exact ⟨t :: ss, .cons ht hs⟩
theorem Gds.len {ks : Nat → Int} : ∀ {l : List Jn} {ss : List Int}, Gds ks l ss → ss.length = l.length
  | _, _, .nil => rfl
  | _, _, .cons _ t => by rw [List.length_cons, List.length_cons, Gds.len t]
theorem Gds.get {ks : Nat → Int} : ∀ {l : List Jn} {ss : List Int} {i : Nat} {j : Jn}, Gds ks l ss → l[i]? = some j → ∃ t, ss[i]? = some t ∧ Gd ks j t
  | _, _, _, _, .nil, e => by simp at e
  | _, _, 0, j, .cons h _, e => by
    simp only [List.getElem?_cons_zero, Option.some.injEq] at e
    subst e
    exact ⟨_, rfl, h⟩
  | _, _, i + 1, j, .cons _ t, e => by
    obtain ⟨s, h1, h2⟩ := Gds.get (i := i) (j := j) t (by simpa using e)
    exact ⟨s, by simpa using h1, h2⟩
theorem Gds.ins {ks : Nat → Int} {l : List Jn} {ss : List Int} (g : Gds ks l ss) : ∀ p ∈ ss, 1 ≤ p ∧ p ≤ 64 := by
  induction g with
  | nil => exact fun _ z => (by cases z)
  | cons h t ih =>
    intro p hp
    rcases List.mem_cons.mp hp with rfl | hp
    · exact h.sz
    · exact ih p hp
/-- the size of the joint x, and those of its parts by their numbers -/
theorem sz_at {ks : Nat → Int} {j : Jn} {S : List Int} (hS : Gds ks j.all S) {x : Nat} {op : Str} {td : List PyData} {parts : List Jn} (h : j.all[x]? = some (.mk op td parts)) :
    ∃ ps s, Gds ks parts ps ∧ szOf op td ps = some s ∧ S[x]? = some s ∧ Gd ks (.mk op td parts) s ∧ (kinN (j.ups (-1) 0) x).length = ps.length ∧ ∀ (i n : Nat), (kinN (j.ups (-1) 0) x)[i]? = some n → x < n ∧ n < j.cnt ∧ ∃ p, ps[i]? = some p ∧ S[n]? = some p := by
  obtain ⟨s, h1, h2⟩ := hS.get h
  obtain ⟨ps, g1, g2⟩ := h2.step
  rw [kinN_tops h]
  refine ⟨ps, s, g1, g2, h1, h2, by rw [tops_len, g1.len], fun i n hi => ?_⟩
  have il := lt_of_get hi
  rw [tops_len] at il
  obtain ⟨t, t1, t2, t3, t4⟩ := part_at h (List.getElem?_eq_getElem il)
  rw [hi, Option.some.injEq] at t1
  subst t1
  obtain ⟨q, q1, q2⟩ := hS.get t4
  obtain ⟨p, p1, p2⟩ := g1.get (List.getElem?_eq_getElem il)
  refine ⟨t2, t3, p, p1, ?_⟩
  rw [q1, q2.one p2]
/-- what is checked of a joint -/
def ckOk (op : Str) (td : List PyData) (ps : List Int) : Prop :=
  (op ∈ ([Str.ofString "add", Str.ofString "sub", Str.ofString "mul", Str.ofString "dot"] : List Str) → ∃ p, ps = [p, p]) ∧ (op = "part" → ∃ i k p, td = [.int i, .int k] ∧ ps = [p] ∧ k ≤ p)
theorem Gd.ck {ks : Nat → Int} {op : Str} {td : List PyData} {parts : List Jn} {s : Int} {ps : List Int} (g : Gd ks (.mk op td parts) s) (h : Gds ks parts ps) : ckOk op td ps := by
  have no : ∀ {op : Str}, op ∉ ([Str.ofString "add", Str.ofString "sub", Str.ofString "mul", Str.ofString "dot"] : List Str) → op ≠ "part" → ∀ {td : List PyData} {ps : List Int}, ckOk op td ps := fun h1 h2 => ⟨fun z => absurd z h1, fun z => absurd z h2⟩
  have pp : ∀ {j l : Jn} {s : Int}, Gd ks j s → Gd ks l s → Gds ks [j, l] ps → ∃ p, ps = [p, p] := by
    intro j l s a b hh
    cases hh with
    | cons b1 b2 =>
      cases b2 with
      | cons b3 b4 =>
        cases b4
        exact ⟨s, by rw [b1.one a, b3.one b]⟩
  cases g with
  | inp i hi h1 h2 => exact no (by decide +kernel) (by decide +kernel)
  | row ns h1 h2 h => exact no (by decide +kernel) (by decide +kernel)
  | same op hm g =>
    have k : ∀ y ∈ opsSame, y ∉ ([Str.ofString "add", Str.ofString "sub", Str.ofString "mul", Str.ofString "dot"] : List Str) ∧ y ≠ "part" := by decide +kernel
    exact no (k op hm).1 (k op hm).2
  | unit op hm g =>
    have k : ∀ y ∈ opsUnit, y ∉ ([Str.ofString "add", Str.ofString "sub", Str.ofString "mul", Str.ofString "dot"] : List Str) ∧ y ≠ "part" := by decide +kernel
    exact no (k op hm).1 (k op hm).2
  | hold n h1 h2 g => exact no (by decide +kernel) (by decide +kernel)
  | part i k h1 h2 h3 g =>
    refine ⟨fun z => absurd z (by decide +kernel), fun _ => ?_⟩
    cases h with
    | cons b1 b2 =>
      cases b2
      exact ⟨i, k, _, rfl, rfl, by rw [b1.one g]; exact h3⟩
  | rep t h1 h2 h3 g => exact no (by decide +kernel) (by decide +kernel)
  | pair op hm g g2 =>
    have k : ∀ y ∈ opsPair, y ≠ "part" := by decide +kernel
    exact ⟨fun _ => pp g g2 h, fun z => absurd z (k op hm)⟩
  | dot g g2 => exact ⟨fun _ => pp g g2 h, fun z => absurd z (by decide +kernel)⟩
  | outer hh g g2 => exact no (by decide +kernel) (by decide +kernel)
  | blend hh g g2 => exact no (by decide +kernel) (by decide +kernel)
  | cat hh g g2 => exact no (by decide +kernel) (by decide +kernel)
/-- an input among the joints: its letter tells its size -/
theorem Gd.name {ks : Nat → Int} {td : List PyData} {parts : List Jn} {s : Int} (g : Gd ks (.mk "in" td parts) s) : ∃ i : Nat, i < 4 ∧ td = [.str (abc i), .int (ks i)] := by
  generalize hop : (Str.ofString "in") = op at g
  cases g with
  | inp i hi h1 h2 => exact ⟨i, hi, rfl⟩
  | row ns h1 h2 h => exact absurd hop (by decide +kernel)
  | same op hm g =>
    have k : ∀ y ∈ opsSame, ¬ Str.ofString "in" = y := by decide +kernel
    exact absurd hop (k op hm)
  | unit op hm g =>
    have k : ∀ y ∈ opsUnit, ¬ Str.ofString "in" = y := by decide +kernel
    exact absurd hop (k op hm)
  | hold n h1 h2 g => exact absurd hop (by decide +kernel)
  | part i k h1 h2 h3 g => exact absurd hop (by decide +kernel)
  | rep t h1 h2 h3 g => exact absurd hop (by decide +kernel)
  | pair op hm g g2 =>
    have k : ∀ y ∈ opsPair, ¬ Str.ofString "in" = y := by decide +kernel
    exact absurd hop (k op hm)
  | dot g g2 => exact absurd hop (by decide +kernel)
  | outer hh g g2 => exact absurd hop (by decide +kernel)
  | blend hh g g2 => exact absurd hop (by decide +kernel)
  | cat hh g g2 => exact absurd hop (by decide +kernel)
theorem abc_inj {i k : Nat} (hi : i < 4) (hk : k < 4) (h : abc i = abc k) : i = k := by
  have f : ∀ a : Fin 4, ∀ b : Fin 4, abc a.1 = abc b.1 → a = b := by decide +kernel
  exact congrArg Fin.val (f ⟨i, hi⟩ ⟨k, hk⟩ h)
end Mine

/-! ### J0 -/
set_option maxHeartbeats 400000
namespace Mine
open PySem PySem.Spec L2
/-! ## programs of the form, whatever their sizes -/
structure Fx (j : Jn) : Prop where
  ok : j.ok
  fit : ∀ x ∈ j.all, Fit x
mutual
def Jn.wd : Jn → Int
  | .mk op td parts => (szOf op td (Jn.wds parts)).getD 0
def Jn.wds : List Jn → List Int
  | [] => []
  | j :: r => j.wd :: Jn.wds r
end
theorem wds_map : ∀ l : List Jn, Jn.wds l = l.map Jn.wd
  | [] => by simp only [Jn.wds, List.map_nil]
  | j :: r => by simp only [Jn.wds, List.map_cons, wds_map r]
theorem parts_many {z : Str} {n : Nat} (h : partsFit z n = true) (h1 : z ≠ "row") (h2 : z ≠ "in") : 1 ≤ n := by
  unfold partsFit arity at h
  by_cases c0 : z ∈ op0
  · exfalso
    have k : ∀ y ∈ op0, y = "row" ∨ y = "in" := by decide +kernel
    exact (k z c0).elim h1 h2
  rw [if_neg c0] at h
  by_cases c1 : z ∈ op1
  · rw [if_pos c1] at h
    simp only [Bool.and_eq_true, decide_eq_true_eq] at h
    omega
  rw [if_neg c1] at h
  by_cases c2 : z ∈ op2
  · rw [if_pos c2] at h
    simp only [Bool.and_eq_true, decide_eq_true_eq] at h
    omega
  rw [if_neg c2] at h
  by_cases c3 : z = "cat"
  · rw [if_pos c3] at h
    simp only [Bool.and_eq_true, decide_eq_true_eq] at h
    omega
  rw [if_neg c3] at h
  cases h
theorem parts_two {z : Str} {n : Nat} (h : partsFit z n = true) (hz : z ∈ op2) : n = 2 := by
  have e : arity z = some (2, 2) := by
    have k : ∀ y ∈ op2, arity y = some (2, 2) := by decide +kernel
    exact k z hz
  unfold partsFit at h
  rw [e] at h
  simp only [Bool.and_eq_true, decide_eq_true_eq] at h
  omega
theorem parts_one {z : Str} {n : Nat} (h : partsFit z n = true) (hz : z ∈ op1) : n = 1 := by
  have e : arity z = some (1, 1) := by
    have k : ∀ y ∈ op1, arity y = some (1, 1) := by decide +kernel
    exact k z hz
  unfold partsFit at h
  rw [e] at h
  simp only [Bool.and_eq_true, decide_eq_true_eq] at h
  omega
theorem btw_get {d : PyData} {lo hi : Int} (h : isBtw d lo hi = true) : ∃ i, d = .int i ∧ lo ≤ i ∧ i ≤ hi := by
  cases d with
  | int i =>
    simp only [isBtw, Bool.and_eq_true, decide_eq_true_eq] at h
    exact ⟨i, rfl, h.1, h.2⟩
  | _ => cases h
theorem told_in {td : List PyData} (h : toldFits "in" td = true) : ∃ z k, td = [.str z, .int k] ∧ 1 ≤ k ∧ k ≤ 64 := by
  rw [fits_in] at h
  unfold tellsInput at h
  split at h
  · rename_i a b
    rw [Bool.and_eq_true] at h
    obtain ⟨k, rfl, h1, h2⟩ := btw_get h.2
    cases a with
    | str z => exact ⟨z, k, rfl, h1, h2⟩
    | _ => exact absurd h.1 (by simp [isWord])
  · cases h
theorem told_part {td : List PyData} (h : toldFits "part" td = true) : ∃ i k, td = [.int i, .int k] ∧ 0 ≤ i ∧ i < k ∧ k ≤ 64 := by
  rw [fits_part] at h
  unfold tellsStretch at h
  split at h
  · rename_i a k
    rw [Bool.and_eq_true] at h
    obtain ⟨i, rfl, h1, h2⟩ := btw_get h.2
    obtain ⟨k', e, h3, h4⟩ := btw_get h.1
    cases e
    exact ⟨i, k, rfl, h1, by omega, h4⟩
  · cases h
theorem told_rep {td : List PyData} (h : toldFits "rep" td = true) : ∃ t, td = [.int t] ∧ 1 ≤ t ∧ t ≤ 16 := by
  rw [fits_rep] at h
  unfold tellsTimes at h
  split at h
  · obtain ⟨i, rfl, h1, h2⟩ := btw_get h
    exact ⟨i, rfl, h1, h2⟩
  · cases h
theorem sum_pos : ∀ {ps : List Int}, (∀ p ∈ ps, 1 ≤ p) → 0 ≤ ps.sum
  | [], _ => by simp
  | a :: r, h => by
    have h1 := h a List.mem_cons_self
    have h2 := sum_pos (ps := r) fun p hp => h p (List.mem_cons_of_mem _ hp)
    rw [List.sum_cons]
    omega
theorem two_of {ps : List Int} (h : ps.length = 2) : ∃ a b, ps = [a, b] := by
  match ps, h with
  | [a, b], _ => exact ⟨a, b, rfl⟩
theorem one_of {ps : List Int} (h : ps.length = 1) : ∃ a, ps = [a] := by
  match ps, h with
  | [a], _ => exact ⟨a, rfl⟩
theorem Fit.some {op : Str} {td : List PyData} {parts : List Jn} {ps : List Int} (h : Fit (.mk op td parts)) (hl : ps.length = parts.length) (hp : ∀ p ∈ ps, 1 ≤ p) : ∃ s, szOf op td ps = some s ∧ 1 ≤ s := by
  obtain ⟨h1, h2⟩ := h
  rw [← hl] at h2
  unfold szOf
  by_cases c : op = "row"
  · subst c
    rw [if_pos rfl]
    rw [fits_row] at h1
    unfold tellsRow at h1
    simp only [Bool.and_eq_true, decide_eq_true_eq] at h1
    exact ⟨_, rfl, h1.1.1⟩
  rw [if_neg c]
  by_cases c1 : op = "in"
  · subst c1
    obtain ⟨z, k, rfl, k1, k2⟩ := told_in h1
    rw [if_pos rfl]
    exact ⟨k, rfl, k1⟩
  rw [if_neg c1]
  split
  · exact ⟨1, rfl, by omega⟩
  split
  · have hn := parts_many h2 c c1
    match ps, hn, hp with
    | a :: r, _, hp =>
      have := hp a List.mem_cons_self
      have := sum_pos (ps := r) fun p hq => hp p (List.mem_cons_of_mem _ hq)
      exact ⟨_, rfl, by rw [List.sum_cons]; omega⟩
  split
  · rename_i c4
    subst c4
    obtain ⟨a, b, rfl⟩ := two_of (parts_two h2 (by decide +kernel))
    exact ⟨_, rfl, one_le_mul (hp a (by simp)) (hp b (by simp))⟩
  split
  · rename_i c5
    subst c5
    obtain ⟨a, b, rfl⟩ := two_of (parts_two h2 (by decide +kernel))
    have := hp a (by simp)
    have := hp b (by simp)
    exact ⟨_, rfl, by omega⟩
  split
  · rename_i c6
    subst c6
    obtain ⟨i, k, rfl, k1, k2, k3⟩ := told_part h1
    exact ⟨_, rfl, by omega⟩
  split
  · rename_i c7
    subst c7
    obtain ⟨t, rfl, k1, k2⟩ := told_rep h1
    obtain ⟨a, rfl⟩ := one_of (parts_one h2 (by decide +kernel))
    exact ⟨_, rfl, one_le_mul k1 (hp a (by simp))⟩
  · have hn := parts_many h2 c c1
    match ps, hn, hp with
    | a :: r, _, hp => exact ⟨a, rfl, hp a List.mem_cons_self⟩
theorem all_self : ∀ j : Jn, j ∈ j.all
  | .mk op td parts => by simp only [Jn.all]; exact List.mem_cons_self
mutual
theorem wd_pos : ∀ j : Jn, (∀ x ∈ j.all, Fit x) → 1 ≤ j.wd
  | .mk op td parts, h => by
    have h1 : Fit (.mk op td parts) := h _ (all_self _)
    have h2 := wds_pos parts fun x hx => h x (by simp only [Jn.all]; exact List.mem_cons_of_mem _ hx)
    obtain ⟨s, e, hs⟩ := h1.some (ps := Jn.wds parts) (by rw [wds_map, List.length_map]) h2
    simp only [Jn.wd, e, Option.getD_some]
    exact hs
theorem wds_pos : ∀ l : List Jn, (∀ x ∈ Jn.alls l, Fit x) → ∀ p ∈ Jn.wds l, 1 ≤ p
  | [], _ => by simp [Jn.wds]
  | j :: r, h => by
    have a := wd_pos j fun x hx => h x (by simp only [Jn.alls]; exact List.mem_append_left _ hx)
    have b := wds_pos r fun x hx => h x (by simp only [Jn.alls]; exact List.mem_append_right _ hx)
    intro p hp
    simp only [Jn.wds, List.mem_cons] at hp
    rcases hp with rfl | hp
    · exact a
    · exact b p hp
end
mutual
theorem ok_all : ∀ j : Jn, j.ok → ∀ x ∈ j.all, x.ok
  | .mk op td parts, h, x, hx => by
    simp only [Jn.all, List.mem_cons] at hx
    rcases hx with rfl | hx
    · exact h
    · simp only [Jn.ok] at h
      exact oks_all parts h.2.2.2.2 x hx
theorem oks_all : ∀ l : List Jn, Jn.oks l → ∀ x ∈ Jn.alls l, x.ok
  | [], _, x, hx => by simp [Jn.alls] at hx
  | j :: r, h, x, hx => by
    simp only [Jn.oks] at h
    simp only [Jn.alls, List.mem_append] at hx
    rcases hx with hx | hx
    · exact ok_all j h.1 x hx
    · exact oks_all r h.2 x hx
end
mutual
theorem all_sub : ∀ j : Jn, ∀ y ∈ j.all, ∀ x ∈ y.all, x ∈ j.all
  | .mk op td parts, y, hy, x, hx => by
    have hy' := hy
    simp only [Jn.all, List.mem_cons] at hy
    rcases hy with rfl | hy
    · exact hx
    · simp only [Jn.all]
      exact List.mem_cons_of_mem _ (alls_sub parts y hy x hx)
theorem alls_sub : ∀ l : List Jn, ∀ y ∈ Jn.alls l, ∀ x ∈ y.all, x ∈ Jn.alls l
  | [], y, hy, _, _ => by simp [Jn.alls] at hy
  | j :: r, y, hy, x, hx => by
    simp only [Jn.alls, List.mem_append] at hy ⊢
    rcases hy with hy | hy
    · exact .inl (all_sub j y hy x hx)
    · exact .inr (alls_sub r y hy x hx)
end
theorem Fx.sub {j y : Jn} (h : Fx j) (hy : y ∈ j.all) : Fx y := ⟨ok_all j h.ok y hy, fun x hx => h.fit x (all_sub j y hy x hx)⟩
theorem Fx.pos {j : Jn} (h : Fx j) : 1 ≤ j.wd := wd_pos j h.fit
theorem Fx.walk {j : Jn} (g : Fx j) (h : j.cnt ≤ 40) : Mine.walk 42 [j.py] 0 = none := by
  have := walk_fit 42 [j] 0 (fun x hx => g.fit x (by simpa [Jn.alls] using hx)) (by simp [Jn.cnts]; omega)
  simpa [Jn.pys] using this
theorem Gd.fx {ks : Nat → Int} {j : Jn} {s : Int} (g : Gd ks j s) : Fx j := ⟨g.ok, g.fit⟩
theorem wd_at {j : Jn} (hf : Fx j) {x : Nat} {op : Str} {td : List PyData} {parts : List Jn} (h : j.all[x]? = some (.mk op td parts)) :
    ∃ s, szOf op td (Jn.wds parts) = some s ∧ 1 ≤ s ∧ (Jn.mk op td parts).wd = s ∧ (∀ p ∈ Jn.wds parts, 1 ≤ p) ∧ (Jn.wds parts).length = parts.length ∧ (kinN (j.ups (-1) 0) x).length = (Jn.wds parts).length ∧
      ∀ (i n : Nat), (kinN (j.ups (-1) 0) x)[i]? = some n → x < n ∧ n < j.cnt ∧ ∃ p, (Jn.wds parts)[i]? = some p ∧ (Jn.wds j.all)[n]? = some p := by
  have hx := hf.sub (List.mem_of_getElem? h)
  have h1 : Fit (.mk op td parts) := hx.fit _ (all_self _)
  have h2 := wds_pos parts fun y hy => hx.fit y (by simp only [Jn.all]; exact List.mem_cons_of_mem _ hy)
  have hl : (Jn.wds parts).length = parts.length := by rw [wds_map, List.length_map]
  obtain ⟨s, e, hs⟩ := h1.some hl h2
  refine ⟨s, e, hs, by simp only [Jn.wd, e, Option.getD_some], h2, hl, by rw [kinN_tops h, tops_len, hl], fun i n hi => ?_⟩
  rw [kinN_tops h] at hi
  have il := lt_of_get hi
  rw [tops_len] at il
  obtain ⟨t, t1, t2, t3, t4⟩ := part_at h (List.getElem?_eq_getElem il)
  rw [hi, Option.some.injEq] at t1
  subst t1
  refine ⟨t2, t3, (parts[i]).wd, ?_, ?_⟩
  · rw [wds_map, List.getElem?_map, List.getElem?_eq_getElem il] <;> rfl
  · rw [wds_map, List.getElem?_map, t4] <;> rfl
/-! ## the faults of sizes -/
inductive Fk | uneq | part | great | inp
  deriving DecidableEq
def pairOps : List Str := [Str.ofString "add", Str.ofString "sub", Str.ofString "mul", Str.ofString "dot"]
def tdK : List PyData → Int
  | [_, .int k] => k
  | _ => 0
def badO (op : Str) (td : List PyData) (ps : List Int) : Option Fk :=
  if op ∈ pairOps ∧ ps.getD 0 0 ≠ ps.getD 1 0 then some .uneq else if op = "part" ∧ ps.getD 0 0 < tdK td then some .part else if 64 < (szOf op td ps).getD 0 then some .great else none
def Jn.bad : Jn → Option Fk
  | .mk op td parts => badO op td (Jn.wds parts)
def fb : List Jn → Nat → Option (Fk × Nat)
  | [], _ => none
  | y :: r, n => match fb r (n + 1) with
    | some z => some z
    | none => y.bad.map fun k => (k, n)
theorem fb_none : ∀ {l : List Jn} {n : Nat}, (∀ (i : Nat) w, l[i]? = some w → w.bad = none) → fb l n = none
  | [], _, _ => rfl
  | y :: r, n, h => by
    have h1 := h 0 y rfl
    have h2 := fb_none (l := r) (n := n + 1) fun i w hw => h (i + 1) w (by simpa using hw)
    unfold fb
    rw [h2, h1]
    rfl
theorem fb_at : ∀ {l : List Jn} {n x : Nat} {y : Jn} {k : Fk}, l[x]? = some y → y.bad = some k → (∀ (z : Nat) w, x < z → l[z]? = some w → w.bad = none) → fb l n = some (k, n + x)
  | [], _, _, _, _, h, _, _ => by simp at h
  | a :: r, n, 0, y, k, h, hb, hn => by
    have e : a = y := by simpa using h
    subst e
    have h2 := fb_none (l := r) (n := n + 1) fun i w hw => hn (i + 1) w (by omega) (by simpa using hw)
    unfold fb
    rw [h2, hb]
    rfl
  | a :: r, n, x + 1, y, k, h, hb, hn => by
    have h2 := fb_at (l := r) (n := n + 1) (x := x) (by simpa using h) hb fun z w hz hw => hn (z + 1) w (by omega) (by simpa using hw)
    unfold fb
    rw [h2]
    simp only [Option.some.injEq, Prod.mk.injEq, true_and]
    omega
def nSet (d : Str → Option Int) (z : Str) (k : Int) : Str → Option Int := fun y => if y = z then some k else d y
theorem nSet_self {d : Str → Option Int} {z : Str} {k : Int} (h : d z = some k) : nSet d z k = d := by
  funext y
  unfold nSet
  split
  · rename_i e
    rw [e, h]
  · rfl
def nf : List Jn → (Str → Option Int) → Option Str
  | [], _ => none
  | .mk op td _ :: r, d => if op = "in" then (match td with
    | [.str z, .int k] => if (d z).getD k = k then nf r (nSet d z k) else some z
    | _ => nf r d) else nf r d
theorem nf_other {op : Str} {td : List PyData} {parts r : List Jn} {d : Str → Option Int} (h : op ≠ "in") : nf (.mk op td parts :: r) d = nf r d := by
  conv => lhs; unfold nf
  rw [if_neg h]
theorem nf_in {z : Str} {k : Int} {parts r : List Jn} {d : Str → Option Int} : nf (.mk "in" [.str z, .int k] parts :: r) d = if (d z).getD k = k then nf r (nSet d z k) else some z := by
  rw [nf] <;> rfl
def Jn.fault (j : Jn) : Option (Fk × PyData) := match fb j.all 0 with
  | some (k, x) => some (k, .int x)
  | none => (nf j.all fun _ => none).map fun z => (.inp, .str z)
theorem fault_at {j : Jn} {x : Nat} {y : Jn} {k : Fk} (h : j.all[x]? = some y) (hb : y.bad = some k) (hn : ∀ (z : Nat) w, x < z → j.all[z]? = some w → w.bad = none) : j.fault = some (k, .int (x : Int)) := by
  unfold Jn.fault
  rw [fb_at (n := 0) h hb hn, Nat.zero_add]
theorem fault_in {j : Jn} {z : Str} (h : ∀ (i : Nat) w, j.all[i]? = some w → w.bad = none) (hz : nf j.all (fun _ => none) = some z) : j.fault = some (.inp, .str z) := by
  unfold Jn.fault
  rw [fb_none h, hz]
  rfl
theorem fault_no {j : Jn} (h : ∀ (i : Nat) w, j.all[i]? = some w → w.bad = none) (hz : nf j.all (fun _ => none) = none) : j.fault = none := by
  unfold Jn.fault
  rw [fb_none h, hz]
  rfl
theorem drop_get {l : List Jn} {i : Nat} {y : Jn} (h : l[i]? = some y) : l.drop i = y :: l.drop (i + 1) := by
  have := lt_of_get h
  rw [List.drop_eq_getElem_cons this]
  rw [List.getElem?_eq_getElem this, Option.some.injEq] at h
  rw [h]
/-! ## a bough in another's place -/
mutual
def Jn.put (new : Jn) (x : Nat) : Jn → Nat → Jn
  | .mk op td parts, n => if n = x then new else .mk op td (Jn.puts new x parts (n + 1))
def Jn.puts (new : Jn) (x : Nat) : List Jn → Nat → List Jn
  | [], _ => []
  | j :: r, n => Jn.put new x j n :: Jn.puts new x r (n + j.cnt)
end
theorem puts_len {new : Jn} {x : Nat} : ∀ (l : List Jn) (n : Nat), (Jn.puts new x l n).length = l.length
  | [], n => by simp [Jn.puts]
  | j :: r, n => by simp only [Jn.puts, List.length_cons, puts_len r]
mutual
theorem put_ok {new : Jn} {x : Nat} (hn : new.ok) : ∀ (j : Jn) (n : Nat), j.ok → (Jn.put new x j n).ok
  | .mk op td parts, n, h => by
    simp only [Jn.put]
    split
    · exact hn
    · simp only [Jn.ok] at h ⊢
      exact ⟨h.1, h.2.1, h.2.2.1, by rw [puts_len]; exact h.2.2.2.1, puts_ok hn parts _ h.2.2.2.2⟩
theorem puts_ok {new : Jn} {x : Nat} (hn : new.ok) : ∀ (l : List Jn) (n : Nat), Jn.oks l → Jn.oks (Jn.puts new x l n)
  | [], n, h => by simp only [Jn.puts, Jn.oks]
  | j :: r, n, h => by
    simp only [Jn.oks] at h
    simp only [Jn.puts, Jn.oks]
    exact ⟨put_ok hn j n h.1, puts_ok hn r _ h.2⟩
end
mutual
theorem put_fit {new : Jn} {x : Nat} (hn : ∀ y ∈ new.all, Fit y) : ∀ (j : Jn) (n : Nat), (∀ y ∈ j.all, Fit y) → ∀ y ∈ (Jn.put new x j n).all, Fit y
  | .mk op td parts, n, h => by
    simp only [Jn.put]
    split
    · exact hn
    · intro y hy
      simp only [Jn.all, List.mem_cons] at hy
      rcases hy with rfl | hy
      · have h1 : Fit (.mk op td parts) := h _ (all_self _)
        exact ⟨h1.1, by rw [puts_len]; exact h1.2⟩
      · exact puts_fit hn parts _ (fun z hz => h z (by simp only [Jn.all]; exact List.mem_cons_of_mem _ hz)) y hy
theorem puts_fit {new : Jn} {x : Nat} (hn : ∀ y ∈ new.all, Fit y) : ∀ (l : List Jn) (n : Nat), (∀ y ∈ Jn.alls l, Fit y) → ∀ y ∈ Jn.alls (Jn.puts new x l n), Fit y
  | [], n, h => by simp [Jn.puts, Jn.alls]
  | j :: r, n, h => by
    intro y hy
    simp only [Jn.puts, Jn.alls, List.mem_append] at hy
    simp only [Jn.alls, List.mem_append] at h
    rcases hy with hy | hy
    · exact put_fit hn j n (fun z hz => h z (.inl hz)) y hy
    · exact puts_fit hn r _ (fun z hz => h z (.inr hz)) y hy
end
theorem put_fx {new j : Jn} {x n : Nat} (hn : Fx new) (h : Fx j) : Fx (Jn.put new x j n) := ⟨put_ok hn.ok j n h.ok, put_fit hn.fit j n h.fit⟩
mutual
theorem put_no {new : Jn} {x : Nat} : ∀ (j : Jn) (n : Nat), (x < n ∨ n + j.cnt ≤ x) → Jn.put new x j n = j
  | .mk op td parts, n, h => by
    simp only [Jn.cnt] at h
    simp only [Jn.put]
    rw [if_neg (by omega), puts_no parts (n + 1) (by omega)]
theorem puts_no {new : Jn} {x : Nat} : ∀ (l : List Jn) (n : Nat), (x < n ∨ n + Jn.cnts l ≤ x) → Jn.puts new x l n = l
  | [], n, _ => by simp only [Jn.puts]
  | j :: r, n, h => by
    simp only [Jn.cnts] at h
    simp only [Jn.puts]
    rw [put_no j n (by omega), puts_no r (n + j.cnt) (by omega)]
end
mutual
theorem put_cnt {new : Jn} {x m : Nat} : ∀ (j : Jn) (n : Nat), (∀ y, n ≤ x → j.all[x - n]? = some y → new.cnt ≤ y.cnt + m) → (Jn.put new x j n).cnt ≤ j.cnt + m
  | .mk op td parts, n, h => by
    simp only [Jn.put]
    split
    · rename_i e
      exact h _ (by omega) (by rw [e, Nat.sub_self]; simp only [Jn.all, List.getElem?_cons_zero])
    · rename_i e
      simp only [Jn.cnt]
      have := puts_cnt (new := new) (x := x) (m := m) parts (n + 1) fun y hy h2 => h y (by omega) (by
        simp only [Jn.all]
        rw [show x - n = (x - (n + 1)) + 1 by omega, List.getElem?_cons_succ]
        exact h2)
      omega
theorem puts_cnt {new : Jn} {x m : Nat} : ∀ (l : List Jn) (n : Nat), (∀ y, n ≤ x → (Jn.alls l)[x - n]? = some y → new.cnt ≤ y.cnt + m) → Jn.cnts (Jn.puts new x l n) ≤ Jn.cnts l + m
  | [], n, _ => by simp [Jn.puts]
  | j :: r, n, h => by
    simp only [Jn.puts, Jn.cnts]
    simp only [Jn.alls] at h
    have hc := cnt_pos j
    by_cases c : x < n + j.cnt
    · rw [puts_no r (n + j.cnt) (.inl c)]
      have := put_cnt (new := new) (x := x) (m := m) j n fun y hy h2 => h y hy (by rw [List.getElem?_append_left (lt_of_get h2)]; exact h2)
      omega
    · rw [put_no j n (.inr (by omega))]
      have := puts_cnt (new := new) (x := x) (m := m) r (n + j.cnt) fun y hy h2 => h y (by omega) (by
        rw [List.getElem?_append_right (by rw [all_cnt]; omega), all_cnt, show x - n - j.cnt = x - (n + j.cnt) by omega]
        exact h2)
      omega
end
end Mine

/-! ### I1 -/
namespace Mine
open PySem PySem.Spec L2
local macro_rules | `(tactic| walk_at "st") => `(tactic| first
  | ((with_reducible apply rd_var); exact rfl)
  | (with_reducible apply rd_c)
  | (with_reducible apply rd_seq)
  | (with_reducible apply rd_asg)
  | (with_reducible apply rd_gname)
  | (with_reducible apply rd_op)
  | (with_reducible apply rd_cb)
  | (with_reducible apply rd_cons)
  | (with_reducible apply rd_nil)
  | (with_reducible apply rd_if)
  | (with_reducible apply rd_test)
  | (with_reducible apply rd_bl)
  | (with_reducible apply rd_retE)
  | (with_reducible apply rd_ret)
  | (with_reducible apply rd_call)
  | (with_reducible apply rd_tup)
  | (with_reducible apply rd_lst)
  | (with_reducible apply rd_drop)
  | (with_reducible apply rd_next)
  | (with_reducible apply rd_ife)
  | (with_reducible apply rd_gsub)
  | (with_reducible apply rd_par)
  | (with_reducible apply rd_par_end)
  | (with_reducible apply rd_un)
  | (with_reducible apply rd_and)
  | (with_reducible apply rd_or)
  | (with_reducible apply rd_not)
  | (with_reducible apply rd_andV)
  | (with_reducible apply rd_orV)
  | (with_reducible apply rd_notV)
  | (with_reducible apply rd_chain)
  | (with_reducible apply rd_tB)
  | (with_reducible apply rd_brk)
  | (with_reducible apply rd_ct)
  | (with_reducible apply u_add)
  | (with_reducible apply u_sub)
  | (with_reducible apply u_lt)
  | (with_reducible apply u_le)
  | (with_reducible apply u_gt)
  | (with_reducible apply u_ge)
  | (with_reducible apply u_eqI)
  | (with_reducible apply u_eqS)
  | (with_reducible apply u_neI)
  | (with_reducible apply u_int)
  | (with_reducible apply u_intB)
  | (with_reducible apply u_max)
  | (with_reducible apply u_min)
  | (with_reducible apply u_neg)
  | ((with_reducible apply u_mod); focus first | assumption | decide | omega)
  | ((with_reducible apply u_div); focus first | decide | omega | (constructor <;> first | assumption | omega))
  | ((with_reducible apply u_mul); focus first | exact Or.inl (by omega) | exact Or.inr (by omega) | exact Or.inl (by decide) | exact Or.inr (by decide))
  | ((with_reducible apply u_ixL); (focus (first | assumption | exact SqL.of (by assumption) | exact SqL.of upd_same)); exact rfl)
  | ((with_reducible apply u_lenL); focus (first | assumption | exact SqL.of (by assumption) | exact SqL.of upd_same))
  | ((with_reducible apply u_lenT); focus (first | assumption | exact SqT.of (by assumption) | exact SqT.of upd_same))
  | ((with_reducible apply u_setL); (focus (first | assumption | exact upd_same)); exact rfl)
  | (with_reducible apply rd_chain3)
  | (with_reducible apply rd_tru)
  | (with_reducible apply rd_truB)
  | ((with_reducible apply rd_truL); focus (first | assumption | exact SqL.of (by assumption) | exact SqL.of upd_same))
  | (with_reducible apply rd_bm)
  | (with_reducible apply rd_bm0)
  | ((with_reducible apply rd_tyL); focus (first | exact SqL.of (by assumption) | exact SqL.of upd_same))
  | (with_reducible apply u_min3)
  | (with_reducible apply rd_rev)
  | (with_reducible apply rd_iList)
  | (with_reducible apply rd_iTup)
  | (with_reducible apply rd_for)
  | (with_reducible apply rd_rng1)
  | (with_reducible apply rd_rng2)
  | ((with_reducible apply rd_rng1e); (focus omega); (focus omega))
  | ((with_reducible apply rd_rng2e); (focus omega))
  | (with_reducible apply rd_gcons)
  | (with_reducible apply rd_gnil)
  | (with_reducible apply rd_retN)
  | (with_reducible apply g_eqI)
  | (with_reducible apply g_eqS)
  | (with_reducible apply g_neI)
  | (with_reducible apply g_neS)
  | (with_reducible apply g_neB)
  | (with_reducible apply rd_xf)
  | (with_reducible apply rd_raiseE)
  | (with_reducible apply rd_callS)
  | (with_reducible apply u_inD)
  | (with_reducible apply u_notInD)
  | (with_reducible apply u_inS)
  | (with_reducible apply u_notInS)
  | (with_reducible apply rd_iSeq)
  | ((with_reducible apply rd_seqL); (focus first | assumption | exact SqL.of (by assumption) | exact SqL.of upd_same))
  | ((with_reducible apply rd_seqT); (focus first | assumption | exact SqT.of (by assumption) | exact SqT.of upd_same))
  | (with_reducible apply rd_istr)
  | (with_reducible apply rd_istrE)
  | ((with_reducible apply u_isi); (focus (first | exact Or.inl rfl | exact Or.inr (Or.inl rfl) | exact Or.inr (Or.inr (Or.inl rfl)) | exact Or.inr (Or.inr (Or.inr rfl)))); (focus first | assumption | exact Rp.int _ | exact Rp.str _))
  | ((with_reducible apply rd_itL); (focus first | assumption | exact SqL.of (by assumption) | exact SqL.of upd_same))
  | ((with_reducible apply rd_itT); (focus first | assumption | exact SqT.of (by assumption) | exact SqT.of upd_same))
  | (with_reducible apply rd_lc)
  | (with_reducible apply rd_yes)
  | ((with_reducible apply u_pow); (focus (exact ⟨by decide, by decide, by decide⟩)))
  | (with_reducible apply u_mul; focus exact Or.inr cm)
  | (with_reducible apply rd_par3)
  | (with_reducible apply rd_par3_end)
  | ((with_reducible apply rd_aug); exact rfl)
  | (with_reducible apply rd_ipI)
  | (with_reducible apply rd_enA)
  | (with_reducible apply rd_revR)
  | (with_reducible apply rd_rg1)
  | (with_reducible apply rd_rng3)
  | ((with_reducible apply u_enT); (focus first | assumption | exact SqT.of (by assumption) | exact SqT.of upd_same))
  | ((with_reducible apply u_enL); (focus first | assumption | exact SqL.of (by assumption) | exact SqL.of upd_same))
  | (with_reducible apply rd_zip)
  | (with_reducible apply rd_lc2)
  | ((with_reducible apply rd_gtup); (focus first | assumption | exact SqT.of (by assumption) | exact SqT.of upd_same); (focus rfl))
  | (with_reducible apply rd_dnew)
  | (with_reducible apply rd_din)
  | (with_reducible apply rd_dget)
  | (with_reducible apply rd_dput)
  | (with_reducible apply rd_disp1)
  | (with_reducible apply rd_sl)
  | (with_reducible apply rd_part)
  | (with_reducible apply rd_partI)
  | (with_reducible apply rd_nopart)
  | (with_reducible apply u_isB)
  | (with_reducible apply u_repB)
  | (with_reducible apply u_notB)
  | (with_reducible apply rd_dc)
  | (with_reducible apply rd_bmT)
  | (with_reducible apply rd_tupF)
  | ((with_reducible apply rd_tyF); (focus assumption))
  | (with_reducible apply iteT)
  | (with_reducible apply iteF))
local macro_rules | `(tactic| walk_at "go") => `(tactic| repeat (walk_at "st"))
local macro_rules | `(tactic| walk_at "sp") => `(tactic| (first | refine rd_split (fun c => ?_) (fun c => ?_) | refine rd_splitN (fun c => ?_) (fun c => ?_) | refine rd_splitB (fun c => ?_) (fun c => ?_)))
local macro_rules | `(tactic| walk_at "nx") => `(tactic| repeat (first | (with_reducible apply iteF) | (with_reducible apply iteT) | (with_reducible apply rd_next)))

section
variable {P : Program} {w : World} {K : PySem.W.Frag} {mg : Str → Option Value} {base : Heap}
/-- own new lists, one for each number below i -/
structure Rws (H0 H : Hp) (D : Addr) (rows : List V) (f : Nat → List Nat) (i : Nat) : Prop where
  len : rows.length = i
  get : ∀ x, x < i → ∃ r, rows[x]? = some (V.ref r) ∧ r ≠ D ∧ H0 r = none ∧ H r = some (.lst (nV (f x)))
  inj : ∀ (x y : Nat) (r : Addr), rows[x]? = some (V.ref r) → rows[y]? = some (V.ref r) → x = y
theorem Rws.nil (H0 H : Hp) (D : Addr) (f : Nat → List Nat) : Rws H0 H D [] f 0 := ⟨rfl, fun x h => absurd h (Nat.not_lt_zero _), fun x y r h => by simp at h⟩
theorem Rws.same {H0 H H' : Hp} {D : Addr} {rows : List V} {f : Nat → List Nat} {i : Nat} (h : Rws H0 H D rows f i) (s : Same H H') : Rws H0 H' D rows f i := ⟨h.len, fun x hx => by
  obtain ⟨r, h1, h2, h3, h4⟩ := h.get x hx
  exact ⟨r, h1, h2, h3, s _ _ h4⟩, h.inj⟩
theorem Rws.outD {H0 H : Hp} {D : Addr} {rows : List V} {f : Nat → List Nat} {i : Nat} {o : HO} (h : Rws H0 H D rows f i) : Rws H0 (upd H D o) D rows f i := ⟨h.len, fun x hx => by
  obtain ⟨r, h1, h2, h3, h4⟩ := h.get x hx
  exact ⟨r, h1, h2, h3, by rw [upd_ne h2]; exact h4⟩, h.inj⟩
theorem Rws.snoc {H0 H : Hp} {D r : Addr} {rows : List V} {f : Nat → List Nat} {i : Nat} (h : Rws H0 H D rows f i) (hr : H r = none) (n : r ≠ D) (h0 : H0 r = none) (e : f i = []) : Rws H0 (upd H r (.lst [])) D (rows ++ [.ref r]) f (i + 1) := by
  have nr : ∀ x q, rows[x]? = some (V.ref q) → q ≠ r := fun x q hx z => by
    have hl := lt_of_get hx
    rw [h.len] at hl
    obtain ⟨q', h1, _, _, h4⟩ := h.get x hl
    rw [hx] at h1
    cases h1
    rw [z, hr] at h4
    cases h4
  refine ⟨by rw [List.length_append, h.len] <;> rfl, fun x hx => ?_, fun x y q hx hy => ?_⟩
  · rcases Nat.lt_or_ge x i with z | z
    · obtain ⟨q, h1, h2, h3, h4⟩ := h.get x z
      exact ⟨q, by rw [List.getElem?_append_left (by rw [h.len]; exact z)]; exact h1, h2, h3, by rw [upd_ne (nr x q h1)]; exact h4⟩
    · have : x = i := by omega
      subst this
      exact ⟨r, by rw [List.getElem?_append_right (by rw [h.len]; exact Nat.le_refl _), h.len]; simp, n, h0, by rw [upd_same, e] <;> rfl⟩
  · have cs : ∀ x, (rows ++ [V.ref r])[x]? = some (V.ref q) → (x < i ∧ rows[x]? = some (V.ref q)) ∨ (x = i ∧ q = r) := fun x hx => by
      rcases Nat.lt_or_ge x i with z | z
      · rw [List.getElem?_append_left (by rw [h.len]; exact z)] at hx
        exact .inl ⟨z, hx⟩
      · have hl := lt_of_get hx
        rw [List.length_append, h.len] at hl
        have e1 : x = i := by
          have : x < i + 1 := hl
          omega
        rw [List.getElem?_append_right (by rw [h.len]; exact z), h.len, e1, Nat.sub_self] at hx
        have : V.ref r = V.ref q := by simpa using hx
        cases this
        exact .inr ⟨e1, rfl⟩
    rcases cs x hx with ⟨a1, a2⟩ | ⟨a1, a2⟩ <;> rcases cs y hy with ⟨b1, b2⟩ | ⟨b1, b2⟩
    · exact h.inj x y q a2 b2
    · exact absurd b2 (nr x q a2)
    · exact absurd a2 (nr y q b2)
    · rw [a1, b1]
theorem Rws.put {H0 H : Hp} {D r : Addr} {rows : List V} {f : Nat → List Nat} {i w : Nat} {l : List Nat} (h : Rws H0 H D rows f i) (hw : rows[w]? = some (V.ref r)) : Rws H0 (upd H r (.lst (nV l))) D rows (fun x => if x = w then l else f x) i := by
  refine ⟨h.len, fun x hx => ?_, h.inj⟩
  obtain ⟨q, h1, h2, h3, h4⟩ := h.get x hx
  by_cases c : x = w
  · subst c
    rw [hw] at h1
    cases h1
    exact ⟨r, hw, h2, h3, by rw [upd_same, if_pos rfl]⟩
  · have nq : q ≠ r := fun z => by
      subst z
      exact c (h.inj x w q h1 hw)
    exact ⟨q, h1, h2, h3, by rw [upd_ne nq, if_neg c]; exact h4⟩
theorem Rws.eqf {H0 H : Hp} {D : Addr} {rows : List V} {f g : Nat → List Nat} {i : Nat} (h : Rws H0 H D rows f i) (e : ∀ x, x < i → f x = g x) : Rws H0 H D rows g i := ⟨h.len, fun x hx => by
  rw [← e x hx]
  exact h.get x hx, h.inj⟩
def spPn (K : PySem.W.Frag) : Sp := fun vs H Q _ => ∃ (v : V) (j : Jn), vs = [v] ∧ Rp K H v j.py ∧ j.ok ∧ j.cnt ≤ 40 ∧ walk 42 [j.py] 0 = none ∧
  ∀ (H' : Hp) (p : Addr) (rows : List V), Same H H' → SqT K H' p rows → rows.length = j.cnt → (∀ x, x < j.cnt → ∃ r, rows[x]? = some (V.ref r) ∧ SqT K H' r (nV (kinN (j.ups (-1) 0) x))) → Q (.ref p) H'
theorem use_pn {K : PySem.W.Frag} {v : V} {j : Jn} {H : Hp} {Q : VK} {E : XK} (r : Rp K H v j.py) (h : j.ok) (h1 : j.cnt ≤ 40) (h2 : walk 42 [j.py] 0 = none) (q : ∀ (H' : Hp) (p : Addr) (rows : List V), Same H H' → SqT K H' p rows → rows.length = j.cnt → (∀ x, x < j.cnt → ∃ r, rows[x]? = some (V.ref r) ∧ SqT K H' r (nV (kinN (j.ups (-1) 0) x))) → Q (.ref p) H') : spPn K [v] H Q E := ⟨v, j, rfl, r, h, h1, h2, q⟩
/-- the numbers below i of the parts of x -/
def kinTo (us : List Int) (i x : Nat) : List Nat := (List.range i).filter fun y => decide (us[y]? = some (x : Int))
theorem kinTo_len (us : List Int) (i x : Nat) : (kinTo us i x).length ≤ i := Nat.le_trans (List.length_filter_le _ _) (by rw [List.length_range]; exact Nat.le_refl _)
theorem kinTo_succ (us : List Int) (i x : Nat) : kinTo us (i + 1) x = if us[i]? = some (x : Int) then kinTo us i x ++ [i] else kinTo us i x := by
  unfold kinTo
  rw [List.range_succ, List.filter_append, List.filter_cons]
  split
  · rename_i h
    rw [if_pos (of_decide_eq_true h)] <;> rfl
  · rename_i h
    rw [if_neg (fun z => h (decide_eq_true z))]
    simp
abbrev s_part_numbers : Stmt := top 40
theorem sc_part_numbers : FnScope ["program", "wholes", "found", "_", "number", "whole", "parts"] ["program"] (defScope s_part_numbers) := ⟨rfl, rfl, rfl, by decide +kernel, rfl, by decide +kernel, by decide +kernel⟩
theorem has_part_numbers (O : OwnF K mg "part_numbers" s_part_numbers) (B : Bl mg) (h_above : HasF P w K mg base (L2.CX P w) 9 "above" ["program"] (spAbv K)) : HasF P w K mg base (L2.CX P w) 10 "part_numbers" ["program"] (spPn K) := by
  refine hasX O sc_part_numbers (fun _ _ _ _ _ _ us hl => match us, hl with | [_], _ => rfl) (fun vs H Q E h => ?_) (fun f cdv A outer s_ H vs Q E hr h => ?_)
  · obtain ⟨v, j, rfl, _⟩ := h
    rfl
  obtain ⟨v, j, rfl, r, hok, h40, hwk, q⟩ := h
  refine ⟨_, (pss_cons (ps_set (i := 1) sc_part_numbers.nd rfl (by first | exact Or.inl rfl | exact Or.inr rfl) (pe_callHS h_above (hr.mono (by first | decide | omega)) (by rfl) (fun σ => passAt tkX σ) (pa_cons (pv 0) pa_nil))) (pss_cons (ps_setLc (i := 2) (own := [("_", 3)]) (g := gName 3) (tt := tYes) rfl sc_part_numbers.nd rfl rfl (sw_true rfl rfl rfl (by decide +kernel)) (pi_tupK K (pv 1)) (blkOk_by (own := [("_", 3)]) (N := ["program", "wholes", "found", "_", "number", "whole", "parts"]) (sc := defScope s_part_numbers) (by decide +kernel)) (fun _ _ _ _ _ => (pg_name (i := 3) sc_part_numbers.nd rfl (by first | exact Or.inl rfl | exact Or.inr rfl))) (fun _ _ _ _ _ => pts_nil) (fun _ _ _ _ _ => (pe_lst pa_nil))) (pss_cons (ps_for poX rfl (pi_enAK K (by rfl) B.enumerate (pa_cons (pv 1) pa_nil)) (pg_tupK (n := 2) K rfl (pgs_cons (pg_name (i := 4) sc_part_numbers.nd rfl (by first | exact Or.inl rfl | exact Or.inr rfl)) (pgs_cons (pg_name (i := 5) sc_part_numbers.nd rfl (by first | exact Or.inl rfl | exact Or.inr rfl)) pgs_nil))) (pss_one (ps_if (pt_cmpR geU (pv 5) pe_int (nomark _)) (pss_one (ps_expr (pe_bmK K PySem.F.plainAttrs_list PySem.F.slot_list_append PySem.F.type_list_append mt_append (pe_ix (kIx K) (pv 2) (pv 5) (fun _ _ => rfl)) (pa_cons (pv 4) pa_nil)))) pss_nil))) (pss_one (ps_ret (pe_callTy (kTup K) (by rfl) B.tuple (by decide +kernel) (pa_cons (pe_lc (own := [("parts", 6)]) (g := gName 6) (tt := tYes) rfl sc_part_numbers.nd (pi_listK K (pv 2)) (blkOk_by (own := [("parts", 6)]) (N := ["program", "wholes", "found", "_", "number", "whole", "parts"]) (sc := defScope s_part_numbers) (by decide +kernel)) (fun _ _ _ _ _ => (pg_name (i := 6) sc_part_numbers.nd rfl (by first | exact Or.inl rfl | exact Or.inr rfl))) (fun _ _ _ _ _ => pts_nil) (fun _ _ _ _ _ => (pe_callTy (kTup K) (by rfl) B.tuple (by decide +kernel) (pa_cons (pv 6) pa_nil)))) pa_nil))))))), ?_⟩
  refine st0 [some v, none, none, none, none, none, none] rfl ?_
  walk_at "go"
  refine use_abv r hok h40 hwk fun H1 pa s1 ea => ?_
  have hul := ups_len j (-1) 0
  have hui := ups_in j (-1) 0
  generalize Jn.ups (-1) 0 j = us at *
  have lus : (us.map V.int).length = j.cnt := by rw [List.length_map, hul]
  walk_at "go"
  intro D hD
  refine lc_tup (xs := us.map V.int) (fun i H' => ∃ rows, H' D = some (.lst rows) ∧ Rws H1 H' D rows (fun _ => []) i ∧ Same H1 H') ⟨[], upd_same, Rws.nil _ _ _ _, Same.upd_new (Same.refl H1) hD⟩ ?_ ?_ ?_
  · rintro i H' hi ⟨rows, g1, g2, g3⟩
    exact Ext.of_same g3 _ _ ea
  · rintro i x H' hx ⟨rows, g1, g2, g3⟩
    have hi := lt_of_get hx
    rw [lus] at hi
    walk_at "go"
    refine ⟨rfl, ?_⟩
    walk_at "go"
    refine ⟨lk rfl, fun p hp => ?_⟩
    have n1 : D ≠ p := ne_of_none g1 hp
    have hp1 : H1 p = none := by
      cases hh : H1 p with
      | none => rfl
      | some o => rw [g3 _ _ hh] at hp; cases hp
    refine ⟨rows, by rw [upd_ne n1]; exact g1, by rw [g2.len]; exact ls (by omega), rows ++ [.ref p], upd_same, (g2.snoc hp n1.symm hp1 rfl).outD, Same.upd_new (Same.new g3 hp) hD⟩
  rintro H2 ⟨rows, g1, g2, g3⟩
  rw [lus] at g2
  have ea2 := Ext.of_same (K := K) g3 _ _ ea
  walk_at "go"
  refine HE.forET (xs := us.map V.int) (fun i σ H' => ∃ (o4 o5 : Option V), σ = [some v, some (.ref pa), some (.ref D), none, o4, o5, none] ∧ Rws H1 H' D rows (kinTo us i) j.cnt ∧ Same H1 H' ∧ H' D = some (.lst rows)) ⟨_, _, rfl, g2.eqf (fun x _ => rfl), g3, g1⟩ ?_ ?_ ?_
  · rintro i σ H' hi ⟨o4, o5, rfl, k1, k2, k3⟩
    exact Ext.of_same k2 _ _ ea
  · rintro i x t σ H' hx ⟨o4, o5, rfl, k1, k2, k3⟩ ht
    rw [List.getElem?_map, Option.map_eq_some_iff] at hx
    obtain ⟨u, hu, rfl⟩ := hx
    have hi := lt_of_get hu
    have st : Same H' (upd H' t (.tup [.int (i : Nat), .int u])) := same_new ht _
    have k4 := k1.same st
    have k5 := k2.trans st
    have k6 := st _ _ k3
    have sT : SqT K (upd H' t (.tup [.int (i : Nat), .int u])) t [.int (i : Nat), .int u] := SqT.of upd_same
    generalize upd H' t (.tup [.int (i : Nat), .int u]) = H3 at *
    walk_at "go"
    refine rd_split (fun c => ?_) (fun c => ?_)
    · have hr := hui u (List.mem_of_getElem? hu)
      obtain ⟨m, rfl⟩ : ∃ m : Nat, u = m := ⟨u.toNat, by omega⟩
      have hm : m < j.cnt := by omega
      obtain ⟨ra, e1, e2, e3, e4⟩ := k4.get m hm
      walk_at "go"
      refine u_ixL (SqL.of k6) (atI_nat e1) ?_
      walk_at "go"
      refine u_app e4 ?_ ?_
      · unfold nV
        rw [List.length_map]
        exact ls (Nat.le_trans (kinTo_len _ _ _) (by omega))
      walk_at "go"
      have e5 : nV (kinTo us i m) ++ [V.int (i : Nat)] = nV (kinTo us i m ++ [i]) := by
        unfold nV
        rw [List.map_append] <;> rfl
      rw [e5]
      refine ⟨_, _, rfl, (k4.put e1).eqf (fun x hx => ?_), Same.upd_new k5 e3, by rw [upd_ne e2.symm]; exact k6⟩
      rw [kinTo_succ, hu]
      by_cases cx : x = m
      · subst cx
        rw [if_pos rfl, if_pos rfl]
      · rw [if_neg cx, if_neg (fun z => cx (by have := Option.some.inj z; omega))]
    · walk_at "go"
      refine ⟨_, _, rfl, k4.eqf (fun x hx => ?_), k5, k6⟩
      rw [kinTo_succ, hu, if_neg (fun z => c (by have := Option.some.inj z; omega))]
  rintro σ H4 ⟨o4, o5, rfl, k1, k2, k3⟩
  rw [lus, ← hul] at k1
  walk_at "go"
  intro D2 hD2
  have nD : D ≠ D2 := ne_of_none k3 hD2
  refine lc_list (xs := rows) (fun i H' => ∃ ts, H' D2 = some (.lst ts) ∧ ts.length = i ∧ (∀ x, x < i → ∃ r, ts[x]? = some (V.ref r) ∧ SqT K H' r (nV (kinN us x))) ∧ Same H4 H') ⟨[], upd_same, rfl, fun x hx => absurd hx (Nat.not_lt_zero _), Same.upd_new (Same.refl H4) hD2⟩ ?_ ?_ ?_
  · rintro i H' hi ⟨ts, y1, y2, y3, y4⟩
    exact SqL.of (y4 _ _ k3)
  · rintro i x H' hx ⟨ts, y1, y2, y3, y4⟩
    have hi := lt_of_get hx
    rw [k1.len] at hi
    obtain ⟨ra, e1, e2, e3, e4⟩ := k1.get i hi
    rw [hx] at e1
    cases e1
    walk_at "go"
    refine ⟨rfl, ?_⟩
    walk_at "go"
    refine u_tupL (SqL.of (y4 _ _ e4)) fun p hp => ?_
    have n1 : D2 ≠ p := ne_of_none y1 hp
    have x1 : Ext K H' (upd (upd H' p (.tup (nV (kinTo us us.length i)))) D2 (.lst (ts ++ [.ref p]))) := (Ext.new hp).trans (Ext.set (o := .lst ts) (by rw [upd_ne n1]; exact y1) trivial)
    refine ⟨ts, by rw [upd_ne n1]; exact y1, by rw [y2]; exact ls (by omega), ts ++ [.ref p], upd_same, by rw [List.length_append, y2] <;> rfl, fun x hx2 => ?_, Same.upd_new (Same.new y4 hp) hD2⟩
    rcases Nat.lt_or_ge x i with z | z
    · obtain ⟨r2, z1, z2⟩ := y3 x z
      exact ⟨r2, by rw [List.getElem?_append_left (by omega)]; exact z1, x1 _ _ z2⟩
    · have : x = i := by omega
      subst this
      exact ⟨p, by rw [List.getElem?_append_right (by omega), y2]; simp, SqT.of (by rw [upd_ne n1.symm]; exact upd_same)⟩
  rintro H5 ⟨ts, y1, y2, y3, y4⟩
  rw [k1.len] at y2 y3
  walk_at "go"
  refine u_tupL (SqL.of y1) fun p hp => ?_
  refine q _ p ts (Same.new ((s1.trans k2).trans y4) hp) (SqT.of upd_same) (by rw [y2, hul]) (fun x hx => ?_)
  obtain ⟨r2, z1, z2⟩ := y3 x (by rw [hul]; exact hx)
  exact ⟨r2, z1, Ext.new hp _ _ z2⟩
end
end Mine

/-! ### I2 -/
namespace Mine
open PySem PySem.Spec L2
local macro_rules | `(tactic| walk_at "st") => `(tactic| first
  | ((with_reducible apply rd_var); exact rfl)
  | (with_reducible apply rd_c)
  | (with_reducible apply rd_seq)
  | (with_reducible apply rd_asg)
  | (with_reducible apply rd_gname)
  | (with_reducible apply rd_op)
  | (with_reducible apply rd_cb)
  | (with_reducible apply rd_cons)
  | (with_reducible apply rd_nil)
  | (with_reducible apply rd_if)
  | (with_reducible apply rd_test)
  | (with_reducible apply rd_bl)
  | (with_reducible apply rd_retE)
  | (with_reducible apply rd_ret)
  | (with_reducible apply rd_call)
  | (with_reducible apply rd_tup)
  | (with_reducible apply rd_lst)
  | (with_reducible apply rd_drop)
  | (with_reducible apply rd_next)
  | (with_reducible apply rd_ife)
  | (with_reducible apply rd_gsub)
  | (with_reducible apply rd_par)
  | (with_reducible apply rd_par_end)
  | (with_reducible apply rd_un)
  | (with_reducible apply rd_and)
  | (with_reducible apply rd_or)
  | (with_reducible apply rd_not)
  | (with_reducible apply rd_andV)
  | (with_reducible apply rd_orV)
  | (with_reducible apply rd_notV)
  | (with_reducible apply rd_chain)
  | (with_reducible apply rd_tB)
  | (with_reducible apply rd_brk)
  | (with_reducible apply rd_ct)
  | (with_reducible apply u_add)
  | (with_reducible apply u_sub)
  | (with_reducible apply u_lt)
  | (with_reducible apply u_le)
  | (with_reducible apply u_gt)
  | (with_reducible apply u_ge)
  | (with_reducible apply u_eqI)
  | (with_reducible apply u_eqS)
  | (with_reducible apply u_neI)
  | (with_reducible apply u_int)
  | (with_reducible apply u_intB)
  | (with_reducible apply u_max)
  | (with_reducible apply u_min)
  | (with_reducible apply u_neg)
  | ((with_reducible apply u_mod); focus first | assumption | decide | omega)
  | ((with_reducible apply u_div); focus first | decide | omega | (constructor <;> first | assumption | omega))
  | ((with_reducible apply u_mul); focus first | exact Or.inl (by omega) | exact Or.inr (by omega) | exact Or.inl (by decide) | exact Or.inr (by decide))
  | ((with_reducible apply u_ixL); (focus (first | assumption | exact SqL.of (by assumption) | exact SqL.of upd_same)); exact rfl)
  | ((with_reducible apply u_lenL); focus (first | assumption | exact SqL.of (by assumption) | exact SqL.of upd_same))
  | ((with_reducible apply u_lenT); focus (first | assumption | exact SqT.of (by assumption) | exact SqT.of upd_same))
  | ((with_reducible apply u_setL); (focus (first | assumption | exact upd_same)); exact rfl)
  | (with_reducible apply rd_chain3)
  | (with_reducible apply rd_tru)
  | (with_reducible apply rd_truB)
  | ((with_reducible apply rd_truL); focus (first | assumption | exact SqL.of (by assumption) | exact SqL.of upd_same))
  | (with_reducible apply rd_bm)
  | (with_reducible apply rd_bm0)
  | ((with_reducible apply rd_tyL); focus (first | exact SqL.of (by assumption) | exact SqL.of upd_same))
  | (with_reducible apply u_min3)
  | (with_reducible apply rd_rev)
  | (with_reducible apply rd_iList)
  | (with_reducible apply rd_iTup)
  | (with_reducible apply rd_for)
  | (with_reducible apply rd_rng1)
  | (with_reducible apply rd_rng2)
  | ((with_reducible apply rd_rng1e); (focus omega); (focus omega))
  | ((with_reducible apply rd_rng2e); (focus omega))
  | (with_reducible apply rd_gcons)
  | (with_reducible apply rd_gnil)
  | (with_reducible apply rd_retN)
  | (with_reducible apply g_eqI)
  | (with_reducible apply g_eqS)
  | (with_reducible apply g_neI)
  | (with_reducible apply g_neS)
  | (with_reducible apply g_neB)
  | (with_reducible apply rd_xf)
  | (with_reducible apply rd_raiseE)
  | (with_reducible apply rd_callS)
  | (with_reducible apply u_inD)
  | (with_reducible apply u_notInD)
  | (with_reducible apply u_inS)
  | (with_reducible apply u_notInS)
  | (with_reducible apply rd_iSeq)
  | ((with_reducible apply rd_seqL); (focus first | assumption | exact SqL.of (by assumption) | exact SqL.of upd_same))
  | ((with_reducible apply rd_seqT); (focus first | assumption | exact SqT.of (by assumption) | exact SqT.of upd_same))
  | (with_reducible apply rd_istr)
  | (with_reducible apply rd_istrE)
  | ((with_reducible apply u_isi); (focus (first | exact Or.inl rfl | exact Or.inr (Or.inl rfl) | exact Or.inr (Or.inr (Or.inl rfl)) | exact Or.inr (Or.inr (Or.inr rfl)))); (focus first | assumption | exact Rp.int _ | exact Rp.str _))
  | ((with_reducible apply rd_itL); (focus first | assumption | exact SqL.of (by assumption) | exact SqL.of upd_same))
  | ((with_reducible apply rd_itT); (focus first | assumption | exact SqT.of (by assumption) | exact SqT.of upd_same))
  | (with_reducible apply rd_lc)
  | (with_reducible apply rd_yes)
  | ((with_reducible apply u_pow); (focus (exact ⟨by decide, by decide, by decide⟩)))
  | (with_reducible apply u_mul; focus exact Or.inr cm)
  | (with_reducible apply rd_par3)
  | (with_reducible apply rd_par3_end)
  | ((with_reducible apply rd_aug); exact rfl)
  | (with_reducible apply rd_ipI)
  | (with_reducible apply rd_enA)
  | (with_reducible apply rd_revR)
  | (with_reducible apply rd_rg1)
  | (with_reducible apply rd_rng3)
  | ((with_reducible apply u_enT); (focus first | assumption | exact SqT.of (by assumption) | exact SqT.of upd_same))
  | ((with_reducible apply u_enL); (focus first | assumption | exact SqL.of (by assumption) | exact SqL.of upd_same))
  | (with_reducible apply rd_zip)
  | (with_reducible apply rd_lc2)
  | ((with_reducible apply rd_gtup); (focus first | assumption | exact SqT.of (by assumption) | exact SqT.of upd_same); (focus rfl))
  | (with_reducible apply rd_dnew)
  | (with_reducible apply rd_din)
  | (with_reducible apply rd_dget)
  | (with_reducible apply rd_dput)
  | (with_reducible apply rd_disp1)
  | (with_reducible apply rd_sl)
  | (with_reducible apply rd_part)
  | (with_reducible apply rd_partI)
  | (with_reducible apply rd_nopart)
  | (with_reducible apply u_isB)
  | (with_reducible apply u_repB)
  | (with_reducible apply u_notB)
  | (with_reducible apply rd_dc)
  | (with_reducible apply rd_bmT)
  | (with_reducible apply rd_tupF)
  | ((with_reducible apply rd_tyF); (focus assumption))
  | (with_reducible apply iteT)
  | (with_reducible apply iteF))
local macro_rules | `(tactic| walk_at "go") => `(tactic| repeat (walk_at "st"))
local macro_rules | `(tactic| walk_at "sp") => `(tactic| (first | refine rd_split (fun c => ?_) (fun c => ?_) | refine rd_splitN (fun c => ?_) (fun c => ?_) | refine rd_splitB (fun c => ?_) (fun c => ?_)))
local macro_rules | `(tactic| walk_at "nx") => `(tactic| repeat (first | (with_reducible apply iteF) | (with_reducible apply iteT) | (with_reducible apply rd_next)))

section
variable {P : Program} {w : World} {K : PySem.W.Frag} {mg : Str → Option Value} {base : Heap}
/-- the classes of the faults -/
structure Fcl where
  uneq : Addr
  part : Addr
  great : Addr
  inp : Addr
def Fcl.of (c : Fcl) : Fk → Addr
  | .uneq => c.uneq
  | .part => c.part
  | .great => c.great
  | .inp => c.inp
def RaisedV (E : XK) (H : Hp) (C : Addr) (v : V) : Prop := ∀ (H' : Hp) (d : Addr), Same H H' → H' d = some (.xd [("what", v)]) → E (.ref C) (some d) H'
theorem RaisedV.mono {E : XK} {H H1 : Hp} {C : Addr} {v : V} (h : RaisedV E H C v) (s : Same H H1) : RaisedV E H1 C v := fun H' d s' e => h H' d (s.trans s') e
def spCk (K : PySem.W.Frag) (c : Fcl) : Sp := fun vs H Q E => ∃ (z : Str) (a b : Addr) (tv : List V) (td : List PyData) (ps : List Int) (n : Int) (s : Int), vs = [.str z, .ref a, .ref b, .int n] ∧ SqT K H a tv ∧ Rps K H tv td ∧ SqL K H b (ps.map V.int) ∧ (∀ p ∈ ps, 1 ≤ p ∧ p ≤ 64) ∧ td.length ≤ 64 ∧ szOf z td ps = some s ∧
  (z ∈ pairOps → ∃ p q, ps = [p, q]) ∧ (z = "part" → ∃ i k p, td = [.int i, .int k] ∧ ps = [p]) ∧ (∀ k, badO z td ps = some k → RaisedV E H (c.of k) (.int n)) ∧ (badO z td ps = none → ∀ H', Same H H' → Q (.int s) H')
abbrev s_checked_size : Stmt := top 45
theorem sc_checked_size : FnScope ["op", "told", "part_sizes", "number", "size"] ["op", "told", "part_sizes", "number"] (defScope s_checked_size) := ⟨rfl, rfl, rfl, by decide +kernel, rfl, by decide +kernel, by decide +kernel⟩
theorem has_checked_size {fI : Addr} {c : Fcl} (O : OwnF K mg "checked_size" s_checked_size) (B : Bl mg) (C : Cst mg) (hI : InitF P w K mg base fI) (M_Unequal : ErrC K mg fI "Unequal" c.uneq) (M_BadPart : ErrC K mg fI "BadPart" c.part) (M_TooGreat : ErrC K mg fI "TooGreat" c.great) (h_size_of : HasF P w K mg base CX0 1 "size_of" ["op", "told", "part_sizes"] (spSz K)) : HasF P w K mg base (L2.CX P w) 3 "checked_size" ["op", "told", "part_sizes", "number"] (spCk K c) := by
  refine hasX O sc_checked_size (fun _ _ _ _ _ _ us hl => match us, hl with | [_, _, _, _], _ => rfl) (fun vs H Q E h => ?_) (fun f cdv A outer s_ H vs Q E hr h => ?_)
  · obtain ⟨z, a, b, tv, td, ps, n, s, rfl, _⟩ := h
    rfl
  obtain ⟨z, a, b, tv, td, ps, n, s, rfl, hT, hR, hL, hps, h64, hz, hpr, hpt, hbad, q⟩ := h
  refine ⟨_, (pss_cons (ps_if (PW.pt (pw_and (pt_cmpR (kIn K) (pv 0) (pe_tup (pa_cons pe_str (pa_cons pe_str (pa_cons pe_str (pa_cons pe_str pa_nil))))) (by rfl)) (pw_and1 (pt_cmpR (kNeG K (hU hr)) (pe_ix (kIx K) (pv 2) pe_int (fun _ _ => rfl)) (pe_ix (kIx K) (pv 2) pe_int (fun _ _ => rfl)) (nomark _))))) (pss_one (ps_raiseE K hI M_Unequal rfl (hr.mono (by decide)) tkX (pv 3) (by rfl))) pss_nil) (pss_cons (ps_if (PW.pt (pw_and (pt_cmpR (kEqG K (hU hr)) (pv 0) pe_str (nomark _)) (pw_and1 (pt_cmpR gtU (pe_ix (kIx K) (pv 1) pe_int (fun _ _ => rfl)) (pe_ix (kIx K) (pv 2) pe_int (fun _ _ => rfl)) (nomark _))))) (pss_one (ps_raiseE K hI M_BadPart rfl (hr.mono (by decide)) tkX (pv 3) (by rfl))) pss_nil) (pss_cons (ps_set (i := 4) sc_checked_size.nd rfl (by first | exact Or.inl rfl | exact Or.inr rfl) (pe_callH h_size_of (hr.mono (by first | decide | omega)) (by rfl) pass0 (pa_cons (pv 0) (pa_cons (pv 1) (pa_cons (pv 2) pa_nil))))) (pss_cons (ps_if (pt_cmpR gtU (pv 4) (pe_globI C.LONGEST_ROW (by rfl)) (nomark _)) (pss_one (ps_raiseE K hI M_TooGreat rfl (hr.mono (by decide)) tkX (pv 3) (by rfl))) pss_nil) (pss_one (ps_ret (pv 4))))))), ?_⟩
  refine st0 [some (.str z), some (.ref a), some (.ref b), some (.int n), none] rfl ?_
  walk_at "go"
  refine ⟨lk rfl, fun p1 hp1 => ?_⟩
  have s1 := same_new hp1 (.tup [V.str (Str.ofString "add"), .str (Str.ofString "sub"), .str (Str.ofString "mul"), .str (Str.ofString "dot")])
  have m1 : inV (.str z) ([Str.ofString "add", Str.ofString "sub", Str.ofString "mul", Str.ofString "dot"].map V.str) = decide (z ∈ pairOps) := inV_str z _
  walk_at "go"
  refine u_inT (xs := [Str.ofString "add", Str.ofString "sub", Str.ofString "mul", Str.ofString "dot"].map V.str) (SqT.of upd_same) rfl (flat_strs _) ?_
  rw [m1]
  walk_at "go"
  have hT1 := Ext.of_same (K := K) s1 _ _ hT
  have hR1 := hR.mono (Ext.of_same (K := K) s1) _ _
  have hL1 : SqL K (upd H p1 (.tup [V.str (Str.ofString "add"), .str (Str.ofString "sub"), .str (Str.ofString "mul"), .str (Str.ofString "dot")])) b (ps.map V.int) := Same.seq s1 hL
  generalize upd H p1 (.tup [V.str (Str.ofString "add"), .str (Str.ofString "sub"), .str (Str.ofString "mul"), .str (Str.ofString "dot")]) = H1 at *
  have np : z ∈ pairOps → z ≠ "part" := by
    have k : ∀ y ∈ pairOps, y ≠ "part" := by decide +kernel
    exact k z
  refine rd_split (fun c => ?_) (fun c => ?_)
  · obtain ⟨p, p', rfl⟩ := hpr c
    have i0 : atI ([p, p'].map V.int) 0 = some (.int p) := rfl
    have i1 : atI ([p, p'].map V.int) 1 = some (.int p') := rfl
    walk_at "go"
    by_cases e : p = p'
    · rw [decide_eq_true e, Bool.not_true]
      refine iteF ?_
      walk_at "go"
      refine rd_split (fun c5 => absurd c5 (np c)) (fun c5 => ?_)
      walk_at "go"
      refine ⟨z, a, b, _, _, _, s, rfl, hT1, hR1, hL1, hps, h64, hz, fun H2 s2 => ?_⟩
      have eb : badO z td [p, p'] = if 64 < s then some .great else none := by
        unfold badO
        rw [if_neg (fun z => z.2 e), if_neg (fun z => c5 z.1), hz] <;> rfl
      walk_at "go"
      refine rd_split (fun c9 => ?_) (fun c9 => ?_)
      · walk_at "go"
        rw [if_pos (by omega)] at eb
        exact u_raise M_TooGreat.c M_TooGreat.n fun d hd => hbad _ eb _ d (Same.new (s1.trans s2) hd) upd_same
      · walk_at "go"
        rw [if_neg (by omega)] at eb
        exact q eb _ (s1.trans s2)
    · rw [decide_eq_false e, Bool.not_false]
      refine iteT ?_
      walk_at "go"
      have eb : badO z td [p, p'] = some .uneq := by
        unfold badO
        rw [if_pos ⟨c, e⟩]
      exact u_raise M_Unequal.c M_Unequal.n fun d hd => hbad _ eb _ d (Same.new s1 hd) upd_same
  · walk_at "go"
    have hfin : (z = "part" → ¬ ps.getD 0 0 < tdK td) → badO z td ps = if 64 < s then some .great else none := fun h => by
      unfold badO
      rw [if_neg (fun y => c y.1), if_neg (fun y => h y.1 y.2), hz] <;> rfl
    refine rd_split (fun c5 => ?_) (fun c5 => ?_)
    · obtain ⟨i, k, p, rfl, rfl⟩ := hpt c5
      obtain ⟨x, y, d, e, rfl, ed, r1, r2⟩ := hR1.pair (by rw [hR1.length] <;> rfl)
      cases ed
      cases r2
      have hR2 : Rps K H1 [x, .int k] [.int i, .int k] := .cons r1 (.cons (.int _) .nil)
      have i0 : atI ([p].map V.int) 0 = some (.int p) := rfl
      walk_at "go"
      refine u_ixT hT1 rfl ?_
      walk_at "go"
      refine rd_split (fun c6 => ?_) (fun c6 => ?_)
      · walk_at "go"
        have eb : badO z [.int i, .int k] [p] = some .part := by
          unfold badO
          rw [if_neg (fun y => c y.1), if_pos ⟨c5, by show p < k; omega⟩]
        exact u_raise M_BadPart.c M_BadPart.n fun d hd => hbad _ eb _ d (Same.new s1 hd) upd_same
      walk_at "go"
      refine ⟨z, a, b, _, _, _, s, rfl, hT1, hR2, hL1, hps, h64, hz, fun H2 s2 => ?_⟩
      have eb := hfin (fun _ => by show ¬ p < k; omega)
      walk_at "go"
      refine rd_split (fun c9 => ?_) (fun c9 => ?_)
      · walk_at "go"
        rw [if_pos (by omega)] at eb
        exact u_raise M_TooGreat.c M_TooGreat.n fun d hd => hbad _ eb _ d (Same.new (s1.trans s2) hd) upd_same
      · walk_at "go"
        rw [if_neg (by omega)] at eb
        exact q eb _ (s1.trans s2)
    · walk_at "go"
      refine ⟨z, a, b, _, _, _, s, rfl, hT1, hR1, hL1, hps, h64, hz, fun H2 s2 => ?_⟩
      have eb := hfin (fun y => absurd y c5)
      walk_at "go"
      refine rd_split (fun c9 => ?_) (fun c9 => ?_)
      · walk_at "go"
        rw [if_pos (by omega)] at eb
        exact u_raise M_TooGreat.c M_TooGreat.n fun d hd => hbad _ eb _ d (Same.new (s1.trans s2) hd) upd_same
      · walk_at "go"
        rw [if_neg (by omega)] at eb
        exact q eb _ (s1.trans s2)
end
end Mine

/-! ### I3 -/
namespace Mine
open PySem PySem.Spec L2
local macro_rules | `(tactic| walk_at "st") => `(tactic| first
  | ((with_reducible apply rd_var); exact rfl)
  | (with_reducible apply rd_c)
  | (with_reducible apply rd_seq)
  | (with_reducible apply rd_asg)
  | (with_reducible apply rd_gname)
  | (with_reducible apply rd_op)
  | (with_reducible apply rd_cb)
  | (with_reducible apply rd_cons)
  | (with_reducible apply rd_nil)
  | (with_reducible apply rd_if)
  | (with_reducible apply rd_test)
  | (with_reducible apply rd_bl)
  | (with_reducible apply rd_retE)
  | (with_reducible apply rd_ret)
  | (with_reducible apply rd_call)
  | (with_reducible apply rd_tup)
  | (with_reducible apply rd_lst)
  | (with_reducible apply rd_drop)
  | (with_reducible apply rd_next)
  | (with_reducible apply rd_ife)
  | (with_reducible apply rd_gsub)
  | (with_reducible apply rd_par)
  | (with_reducible apply rd_par_end)
  | (with_reducible apply rd_un)
  | (with_reducible apply rd_and)
  | (with_reducible apply rd_or)
  | (with_reducible apply rd_not)
  | (with_reducible apply rd_andV)
  | (with_reducible apply rd_orV)
  | (with_reducible apply rd_notV)
  | (with_reducible apply rd_chain)
  | (with_reducible apply rd_tB)
  | (with_reducible apply rd_brk)
  | (with_reducible apply rd_ct)
  | (with_reducible apply u_add)
  | (with_reducible apply u_sub)
  | (with_reducible apply u_lt)
  | (with_reducible apply u_le)
  | (with_reducible apply u_gt)
  | (with_reducible apply u_ge)
  | (with_reducible apply u_eqI)
  | (with_reducible apply u_eqS)
  | (with_reducible apply u_neI)
  | (with_reducible apply u_int)
  | (with_reducible apply u_intB)
  | (with_reducible apply u_max)
  | (with_reducible apply u_min)
  | (with_reducible apply u_neg)
  | ((with_reducible apply u_mod); focus first | assumption | decide | omega)
  | ((with_reducible apply u_div); focus first | decide | omega | (constructor <;> first | assumption | omega))
  | ((with_reducible apply u_mul); focus first | exact Or.inl (by omega) | exact Or.inr (by omega) | exact Or.inl (by decide) | exact Or.inr (by decide))
  | ((with_reducible apply u_ixL); (focus (first | assumption | exact SqL.of (by assumption) | exact SqL.of upd_same)); exact rfl)
  | ((with_reducible apply u_lenL); focus (first | assumption | exact SqL.of (by assumption) | exact SqL.of upd_same))
  | ((with_reducible apply u_lenT); focus (first | assumption | exact SqT.of (by assumption) | exact SqT.of upd_same))
  | ((with_reducible apply u_setL); (focus (first | assumption | exact upd_same)); exact rfl)
  | (with_reducible apply rd_chain3)
  | (with_reducible apply rd_tru)
  | (with_reducible apply rd_truB)
  | ((with_reducible apply rd_truL); focus (first | assumption | exact SqL.of (by assumption) | exact SqL.of upd_same))
  | (with_reducible apply rd_bm)
  | (with_reducible apply rd_bm0)
  | ((with_reducible apply rd_tyL); focus (first | exact SqL.of (by assumption) | exact SqL.of upd_same))
  | (with_reducible apply u_min3)
  | (with_reducible apply rd_rev)
  | (with_reducible apply rd_iList)
  | (with_reducible apply rd_iTup)
  | (with_reducible apply rd_for)
  | (with_reducible apply rd_rng1)
  | (with_reducible apply rd_rng2)
  | ((with_reducible apply rd_rng1e); (focus omega); (focus omega))
  | ((with_reducible apply rd_rng2e); (focus omega))
  | (with_reducible apply rd_gcons)
  | (with_reducible apply rd_gnil)
  | (with_reducible apply rd_retN)
  | (with_reducible apply g_eqI)
  | (with_reducible apply g_eqS)
  | (with_reducible apply g_neI)
  | (with_reducible apply g_neS)
  | (with_reducible apply g_neB)
  | (with_reducible apply rd_xf)
  | (with_reducible apply rd_raiseE)
  | (with_reducible apply rd_callS)
  | (with_reducible apply u_inD)
  | (with_reducible apply u_notInD)
  | (with_reducible apply u_inS)
  | (with_reducible apply u_notInS)
  | (with_reducible apply rd_iSeq)
  | ((with_reducible apply rd_seqL); (focus first | assumption | exact SqL.of (by assumption) | exact SqL.of upd_same))
  | ((with_reducible apply rd_seqT); (focus first | assumption | exact SqT.of (by assumption) | exact SqT.of upd_same))
  | (with_reducible apply rd_istr)
  | (with_reducible apply rd_istrE)
  | ((with_reducible apply u_isi); (focus (first | exact Or.inl rfl | exact Or.inr (Or.inl rfl) | exact Or.inr (Or.inr (Or.inl rfl)) | exact Or.inr (Or.inr (Or.inr rfl)))); (focus first | assumption | exact Rp.int _ | exact Rp.str _))
  | ((with_reducible apply rd_itL); (focus first | assumption | exact SqL.of (by assumption) | exact SqL.of upd_same))
  | ((with_reducible apply rd_itT); (focus first | assumption | exact SqT.of (by assumption) | exact SqT.of upd_same))
  | (with_reducible apply rd_lc)
  | (with_reducible apply rd_yes)
  | ((with_reducible apply u_pow); (focus (exact ⟨by decide, by decide, by decide⟩)))
  | (with_reducible apply u_mul; focus exact Or.inr cm)
  | (with_reducible apply rd_par3)
  | (with_reducible apply rd_par3_end)
  | ((with_reducible apply rd_aug); exact rfl)
  | (with_reducible apply rd_ipI)
  | (with_reducible apply rd_enA)
  | (with_reducible apply rd_revR)
  | (with_reducible apply rd_rg1)
  | (with_reducible apply rd_rng3)
  | ((with_reducible apply u_enT); (focus first | assumption | exact SqT.of (by assumption) | exact SqT.of upd_same))
  | ((with_reducible apply u_enL); (focus first | assumption | exact SqL.of (by assumption) | exact SqL.of upd_same))
  | (with_reducible apply rd_zip)
  | (with_reducible apply rd_lc2)
  | ((with_reducible apply rd_gtup); (focus first | assumption | exact SqT.of (by assumption) | exact SqT.of upd_same); (focus rfl))
  | (with_reducible apply rd_dnew)
  | (with_reducible apply rd_din)
  | (with_reducible apply rd_dget)
  | (with_reducible apply rd_dput)
  | (with_reducible apply rd_disp1)
  | (with_reducible apply rd_sl)
  | (with_reducible apply rd_part)
  | (with_reducible apply rd_partI)
  | (with_reducible apply rd_nopart)
  | (with_reducible apply u_isB)
  | (with_reducible apply u_repB)
  | (with_reducible apply u_notB)
  | (with_reducible apply rd_dc)
  | (with_reducible apply rd_bmT)
  | (with_reducible apply rd_tupF)
  | ((with_reducible apply rd_tyF); (focus assumption))
  | (with_reducible apply iteT)
  | (with_reducible apply iteF))
local macro_rules | `(tactic| walk_at "go") => `(tactic| repeat (walk_at "st"))
local macro_rules | `(tactic| walk_at "sp") => `(tactic| (first | refine rd_split (fun c => ?_) (fun c => ?_) | refine rd_splitN (fun c => ?_) (fun c => ?_) | refine rd_splitB (fun c => ?_) (fun c => ?_)))
local macro_rules | `(tactic| walk_at "nx") => `(tactic| repeat (first | (with_reducible apply iteF) | (with_reducible apply iteT) | (with_reducible apply rd_next)))

section
variable {P : Program} {w : World} {K : PySem.W.Frag} {mg : Str → Option Value} {base : Heap}
theorem rd_dsetd {σ : St} {H : Hp} {Q : VK} {td ty tx : TE} (h : td σ H fun x H1 => ∃ a, x = .ref a ∧ IsD H1 a ∧ ty σ H1 fun y H2 => tx σ H2 fun z H3 => ∃ (kvs : List (Key × V)) (k : Key), H3 a = some (.dK kvs) ∧ y = kV k ∧ kvs.length < sizeLine ∧ (∀ v, valV kvs k = some v → Q v H3) ∧ (valV kvs k = none → Q z (upd H3 a (.dK (putK kvs k z))))) : tDSetd td ty tx σ H Q := h
theorem pys_map : ∀ l : List Jn, Jn.pys l = l.map Jn.py
  | [] => rfl
  | j :: r => by simp only [Jn.pys, List.map_cons, pys_map r]
/-- the names seen, as the dict holds them -/
def Nms (kvs : List (Key × V)) (d : Str → Option Int) : Prop := ∀ z, valV kvs (Sum.inr z) = (d z).map V.int
def spCn (K : PySem.W.Frag) (c : Fcl) : Sp := fun vs H Q E => ∃ (a : Addr) (ws : List V) (l : List Jn), vs = [.ref a] ∧ SqT K H a ws ∧ Rps K H ws (Jn.pys l) ∧ (∀ x ∈ l, Fit x) ∧ l.length ≤ 40 ∧
  (∀ z, nf l (fun _ => none) = some z → RaisedV E H c.inp (.str z)) ∧ (nf l (fun _ => none) = none → ∀ H', Same H H' → Q .non H')
abbrev s_check_names : Stmt := top 46
theorem sc_check_names : FnScope ["rows", "first", "op", "told", "_", "name", "k"] ["rows"] (defScope s_check_names) := ⟨rfl, rfl, rfl, by decide +kernel, rfl, by decide +kernel, by decide +kernel⟩
theorem has_check_names {fI : Addr} {c : Fcl} (O : OwnF K mg "check_names" s_check_names) (hI : InitF P w K mg base fI) (M_BadInput : ErrC K mg fI "BadInput" c.inp) : HasF P w K mg base (L2.CX P w) 3 "check_names" ["rows"] (spCn K c) := by
  refine hasX O sc_check_names (fun _ _ _ _ _ _ us hl => match us, hl with | [_], _ => rfl) (fun vs H Q E h => ?_) (fun f cdv A outer s_ H vs Q E hr h => ?_)
  · obtain ⟨a, ws, l, rfl, _⟩ := h
    rfl
  obtain ⟨a, ws, l, rfl, hW, hR, hF, h40, hbad, q⟩ := h
  have lw : ws.length = l.length := by rw [hR.length, pys_length]
  refine ⟨_, (pss_cons (ps_set (i := 1) sc_check_names.nd rfl (by first | exact Or.inl rfl | exact Or.inr rfl) pe_dnewK) (pss_one (ps_for poX rfl (pi_tupK K (pv 0)) (pg_tupK (n := 3) K rfl (pgs_cons (pg_name (i := 2) sc_check_names.nd rfl (by first | exact Or.inl rfl | exact Or.inr rfl)) (pgs_cons (pg_name (i := 3) sc_check_names.nd rfl (by first | exact Or.inl rfl | exact Or.inr rfl)) (pgs_cons (pg_name (i := 4) sc_check_names.nd rfl (by first | exact Or.inl rfl | exact Or.inr rfl)) pgs_nil)))) (pss_one (ps_if (pt_cmpR (kEqG K (hU hr)) (pv 2) pe_str (nomark _)) (pss_cons (ps_asg (pv 3) (pg_tupK (n := 2) K rfl (pgs_cons (pg_name (i := 5) sc_check_names.nd rfl (by first | exact Or.inl rfl | exact Or.inr rfl)) (pgs_cons (pg_name (i := 6) sc_check_names.nd rfl (by first | exact Or.inl rfl | exact Or.inr rfl)) pgs_nil)))) (pss_one (ps_if (pt_cmpR (kNeG K (hU hr)) (pe_dsetd (pv 1) (pv 5) (pv 6) ⟨by rfl, by rfl, by rfl, by rfl⟩) (pv 6) (nomark _)) (pss_one (ps_raiseE K hI M_BadInput rfl (hr.mono (by decide)) tkX (pv 5) (by rfl))) pss_nil))) pss_nil))))), ?_⟩
  refine st0 [some (.ref a), none, none, none, none, none, none] rfl ?_
  walk_at "go"
  intro p hp
  have hW1 := Ext.new (K := K) (o := .dK []) hp _ _ hW
  walk_at "go"
  refine forT (xs := ws) (fun i σ H' => ∃ (o2 o3 o4 o5 o6 : Option V) (kvs : List (Key × V)) (d : Str → Option Int), σ = [some (.ref a), some (.ref p), o2, o3, o4, o5, o6] ∧ Same H H' ∧ H' p = some (.dK kvs) ∧ kvs.length ≤ i ∧ Nms kvs d ∧ nf (l.drop i) d = nf l (fun _ => none))
    ⟨_, _, _, _, _, [], fun _ => none, rfl, same_new hp _, upd_same, Nat.le_refl _, fun z => rfl, rfl⟩ ?_ ?_ ?_
  · rintro i σ H' hi ⟨o2, o3, o4, o5, o6, kvs, d, rfl, s1, _⟩
    exact Ext.of_same s1 _ _ hW
  · rintro i x σ H' hx ⟨o2, o3, o4, o5, o6, kvs, d, rfl, s1, e1, e2, e3, e4⟩
    obtain ⟨dd, hd, rd⟩ := hR.getV hx
    obtain ⟨j, hj, rfl⟩ : ∃ j, l[i]? = some j ∧ dd = j.py := by
      rw [pys_map, List.getElem?_map, Option.map_eq_some_iff] at hd
      obtain ⟨j, h1, h2⟩ := hd
      exact ⟨j, h1, h2.symm⟩
    have il := lt_of_get hj
    have gj := hF j (List.mem_of_getElem? hj)
    rw [drop_get hj] at e4
    obtain ⟨op, td, parts⟩ := j
    obtain ⟨pj, t, qa, tv, pv', rfl, hsj, hT, hTd, hq, hQ⟩ := (rd.mono (Ext.of_same s1) _ _).jn
    walk_at "go"
    refine rd_split (fun c => ?_) (fun c => ?_)
    · subst c
      obtain ⟨z, k, rfl, k1, k2⟩ := told_in gj.1
      rw [nf_in] at e4
      obtain ⟨x, y, d', e, rfl, ed, r1, r2⟩ := hTd.pair (by rw [hTd.length] <;> rfl)
      cases ed
      cases r1
      cases r2
      walk_at "go"
      refine rd_dsetd ?_
      walk_at "go"
      refine ⟨p, rfl, .inl ⟨kvs, .inl e1⟩, ?_⟩
      walk_at "go"
      refine ⟨kvs, Sum.inr z, e1, rfl, ls (by omega), fun u hu => ?_, fun hu => ?_⟩
      · rw [e3 z, Option.map_eq_some_iff] at hu
        obtain ⟨k', hk', rfl⟩ := hu
        rw [hk', Option.getD_some] at e4
        walk_at "go"
        by_cases ek : k' = k
        · subst ek
          rw [decide_eq_true rfl, Bool.not_true]
          refine iteF ?_
          walk_at "go"
          rw [if_pos rfl, nSet_self hk'] at e4
          exact ⟨_, _, _, _, _, kvs, d, rfl, s1, e1, by omega, e3, e4⟩
        · rw [decide_eq_false ek, Bool.not_false]
          refine iteT ?_
          walk_at "go"
          rw [if_neg ek] at e4
          exact u_raise M_BadInput.c M_BadInput.n fun d hd => hbad _ e4.symm _ d (Same.new s1 hd) upd_same
      · rw [e3 z, Option.map_eq_none_iff] at hu
        rw [hu, Option.getD_none, if_pos rfl] at e4
        walk_at "go"
        rw [decide_eq_true rfl, Bool.not_true]
        refine iteF ?_
        walk_at "go"
        refine ⟨_, _, _, _, _, _, nSet d z k, rfl, Same.upd_new s1 hp, upd_same, Nat.le_trans (length_putK _ _ _) (by omega), fun y => ?_, e4⟩
        rw [valV_put]
        unfold nSet
        by_cases ey : y = z
        · subst ey
          rw [if_pos rfl, if_pos rfl] <;> rfl
        · rw [if_neg (fun w => ey (Sum.inr.inj w)), if_neg ey, e3 y]
    · walk_at "go"
      rw [nf_other c] at e4
      exact ⟨_, _, _, _, _, kvs, d, rfl, s1, e1, by omega, e3, e4⟩
  · rintro σ H' ⟨o2, o3, o4, o5, o6, kvs, d, rfl, s1, e1, e2, e3, e4⟩
    rw [lw, List.drop_length] at e4
    walk_at "go"
    exact q (e4.symm.trans (by simp only [nf])) _ s1
end
end Mine

/-! ### I4 -/
namespace Mine
open PySem PySem.Spec L2
local macro_rules | `(tactic| walk_at "st") => `(tactic| first
  | ((with_reducible apply rd_var); exact rfl)
  | (with_reducible apply rd_c)
  | (with_reducible apply rd_seq)
  | (with_reducible apply rd_asg)
  | (with_reducible apply rd_gname)
  | (with_reducible apply rd_op)
  | (with_reducible apply rd_cb)
  | (with_reducible apply rd_cons)
  | (with_reducible apply rd_nil)
  | (with_reducible apply rd_if)
  | (with_reducible apply rd_test)
  | (with_reducible apply rd_bl)
  | (with_reducible apply rd_retE)
  | (with_reducible apply rd_ret)
  | (with_reducible apply rd_call)
  | (with_reducible apply rd_tup)
  | (with_reducible apply rd_lst)
  | (with_reducible apply rd_drop)
  | (with_reducible apply rd_next)
  | (with_reducible apply rd_ife)
  | (with_reducible apply rd_gsub)
  | (with_reducible apply rd_par)
  | (with_reducible apply rd_par_end)
  | (with_reducible apply rd_un)
  | (with_reducible apply rd_and)
  | (with_reducible apply rd_or)
  | (with_reducible apply rd_not)
  | (with_reducible apply rd_andV)
  | (with_reducible apply rd_orV)
  | (with_reducible apply rd_notV)
  | (with_reducible apply rd_chain)
  | (with_reducible apply rd_tB)
  | (with_reducible apply rd_brk)
  | (with_reducible apply rd_ct)
  | (with_reducible apply u_add)
  | (with_reducible apply u_sub)
  | (with_reducible apply u_lt)
  | (with_reducible apply u_le)
  | (with_reducible apply u_gt)
  | (with_reducible apply u_ge)
  | (with_reducible apply u_eqI)
  | (with_reducible apply u_eqS)
  | (with_reducible apply u_neI)
  | (with_reducible apply u_int)
  | (with_reducible apply u_intB)
  | (with_reducible apply u_max)
  | (with_reducible apply u_min)
  | (with_reducible apply u_neg)
  | ((with_reducible apply u_mod); focus first | assumption | decide | omega)
  | ((with_reducible apply u_div); focus first | decide | omega | (constructor <;> first | assumption | omega))
  | ((with_reducible apply u_mul); focus first | exact Or.inl (by omega) | exact Or.inr (by omega) | exact Or.inl (by decide) | exact Or.inr (by decide))
  | ((with_reducible apply u_ixL); (focus (first | assumption | exact SqL.of (by assumption) | exact SqL.of upd_same)); exact rfl)
  | ((with_reducible apply u_lenL); focus (first | assumption | exact SqL.of (by assumption) | exact SqL.of upd_same))
  | ((with_reducible apply u_lenT); focus (first | assumption | exact SqT.of (by assumption) | exact SqT.of upd_same))
  | ((with_reducible apply u_setL); (focus (first | assumption | exact upd_same)); exact rfl)
  | (with_reducible apply rd_chain3)
  | (with_reducible apply rd_tru)
  | (with_reducible apply rd_truB)
  | ((with_reducible apply rd_truL); focus (first | assumption | exact SqL.of (by assumption) | exact SqL.of upd_same))
  | (with_reducible apply rd_bm)
  | (with_reducible apply rd_bm0)
  | ((with_reducible apply rd_tyL); focus (first | exact SqL.of (by assumption) | exact SqL.of upd_same))
  | (with_reducible apply u_min3)
  | (with_reducible apply rd_rev)
  | (with_reducible apply rd_iList)
  | (with_reducible apply rd_iTup)
  | (with_reducible apply rd_for)
  | (with_reducible apply rd_rng1)
  | (with_reducible apply rd_rng2)
  | ((with_reducible apply rd_rng1e); (focus omega); (focus omega))
  | ((with_reducible apply rd_rng2e); (focus omega))
  | (with_reducible apply rd_gcons)
  | (with_reducible apply rd_gnil)
  | (with_reducible apply rd_retN)
  | (with_reducible apply g_eqI)
  | (with_reducible apply g_eqS)
  | (with_reducible apply g_neI)
  | (with_reducible apply g_neS)
  | (with_reducible apply g_neB)
  | (with_reducible apply rd_xf)
  | (with_reducible apply rd_raiseE)
  | (with_reducible apply rd_callS)
  | (with_reducible apply u_inD)
  | (with_reducible apply u_notInD)
  | (with_reducible apply u_inS)
  | (with_reducible apply u_notInS)
  | (with_reducible apply rd_iSeq)
  | ((with_reducible apply rd_seqL); (focus first | assumption | exact SqL.of (by assumption) | exact SqL.of upd_same))
  | ((with_reducible apply rd_seqT); (focus first | assumption | exact SqT.of (by assumption) | exact SqT.of upd_same))
  | (with_reducible apply rd_istr)
  | (with_reducible apply rd_istrE)
  | ((with_reducible apply u_isi); (focus (first | exact Or.inl rfl | exact Or.inr (Or.inl rfl) | exact Or.inr (Or.inr (Or.inl rfl)) | exact Or.inr (Or.inr (Or.inr rfl)))); (focus first | assumption | exact Rp.int _ | exact Rp.str _))
  | ((with_reducible apply rd_itL); (focus first | assumption | exact SqL.of (by assumption) | exact SqL.of upd_same))
  | ((with_reducible apply rd_itT); (focus first | assumption | exact SqT.of (by assumption) | exact SqT.of upd_same))
  | (with_reducible apply rd_lc)
  | (with_reducible apply rd_yes)
  | ((with_reducible apply u_pow); (focus (exact ⟨by decide, by decide, by decide⟩)))
  | (with_reducible apply u_mul; focus exact Or.inr cm)
  | (with_reducible apply rd_par3)
  | (with_reducible apply rd_par3_end)
  | ((with_reducible apply rd_aug); exact rfl)
  | (with_reducible apply rd_ipI)
  | (with_reducible apply rd_enA)
  | (with_reducible apply rd_revR)
  | (with_reducible apply rd_rg1)
  | (with_reducible apply rd_rng3)
  | ((with_reducible apply u_enT); (focus first | assumption | exact SqT.of (by assumption) | exact SqT.of upd_same))
  | ((with_reducible apply u_enL); (focus first | assumption | exact SqL.of (by assumption) | exact SqL.of upd_same))
  | (with_reducible apply rd_zip)
  | (with_reducible apply rd_lc2)
  | ((with_reducible apply rd_gtup); (focus first | assumption | exact SqT.of (by assumption) | exact SqT.of upd_same); (focus rfl))
  | (with_reducible apply rd_dnew)
  | (with_reducible apply rd_din)
  | (with_reducible apply rd_dget)
  | (with_reducible apply rd_dput)
  | (with_reducible apply rd_disp1)
  | (with_reducible apply rd_sl)
  | (with_reducible apply rd_part)
  | (with_reducible apply rd_partI)
  | (with_reducible apply rd_nopart)
  | (with_reducible apply u_isB)
  | (with_reducible apply u_repB)
  | (with_reducible apply u_notB)
  | (with_reducible apply rd_dc)
  | (with_reducible apply rd_bmT)
  | (with_reducible apply rd_tupF)
  | ((with_reducible apply rd_tyF); (focus assumption))
  | (with_reducible apply iteT)
  | (with_reducible apply iteF))
local macro_rules | `(tactic| walk_at "go") => `(tactic| repeat (walk_at "st"))
local macro_rules | `(tactic| walk_at "sp") => `(tactic| (first | refine rd_split (fun c => ?_) (fun c => ?_) | refine rd_splitN (fun c => ?_) (fun c => ?_) | refine rd_splitB (fun c => ?_) (fun c => ?_)))
local macro_rules | `(tactic| walk_at "nx") => `(tactic| repeat (first | (with_reducible apply iteF) | (with_reducible apply iteT) | (with_reducible apply rd_next)))

section
variable {P : Program} {w : World} {K : PySem.W.Frag} {mg : Str → Option Value} {base : Heap}
def spSs (K : PySem.W.Frag) (c : Fcl) : Sp := fun vs H Q E => ∃ (v : V) (j : Jn), vs = [v] ∧ Rp K H v j.py ∧ Fx j ∧ j.cnt ≤ 40 ∧ (∀ k z, j.fault = some (k, .str z) → RaisedV E H (c.of k) (.str z)) ∧ (∀ k n, j.fault = some (k, .int n) → RaisedV E H (c.of k) (.int n)) ∧
  (j.fault = none → ∀ (H' : Hp) (q : Addr), Same H H' → SqT K H' q ((Jn.wds j.all).map V.int) → Q (.ref q) H')
theorem Fx.shape {op : Str} {td : List PyData} {parts : List Jn} (h : Fit (.mk op td parts)) : (op ∈ pairOps → ∃ p q, Jn.wds parts = [p, q]) ∧ (op = "part" → ∃ i k p, td = [.int i, .int k] ∧ Jn.wds parts = [p]) := by
  have hl : (Jn.wds parts).length = parts.length := by rw [wds_map, List.length_map]
  obtain ⟨h1, h2⟩ := h
  rw [← hl] at h2
  refine ⟨fun c => ?_, fun c => ?_⟩
  · have k : ∀ y ∈ pairOps, y ∈ op2 := by decide +kernel
    exact two_of (parts_two h2 (k op c))
  · subst c
    obtain ⟨i, k, e, _⟩ := told_part h1
    obtain ⟨p, ep⟩ := one_of (parts_one h2 (by decide +kernel))
    exact ⟨i, k, p, e, ep⟩
/-- without a fault a size is 64 at most -/
theorem bad_le {op : Str} {td : List PyData} {parts : List Jn} (h : (Jn.mk op td parts).bad = none) : (Jn.mk op td parts).wd ≤ 64 := by
  simp only [Jn.bad, badO] at h
  simp only [Jn.wd]
  split at h
  · cases h
  split at h
  · cases h
  split at h
  · cases h
  · omega
theorem bad_le' {j : Jn} (h : j.bad = none) : j.wd ≤ 64 := by
  obtain ⟨op, td, parts⟩ := j
  exact bad_le h
abbrev s_sizes : Stmt := top 47
theorem sc_sizes : FnScope ["program", "rows", "parts", "found", "number", "op", "told", "_", "part_sizes", "part"] ["program"] (defScope s_sizes) := ⟨rfl, rfl, rfl, by decide +kernel, rfl, by decide +kernel, by decide +kernel⟩
theorem has_sizes {c : Fcl} (O : OwnF K mg "sizes" s_sizes) (B : Bl mg) (BR : mg "reversed" = none) (h_joints : HasF P w K mg base (L2.CX P w) 9 "joints" ["program"] (spJts K)) (h_part_numbers : HasF P w K mg base (L2.CX P w) 10 "part_numbers" ["program"] (spPn K)) (h_checked_size : HasF P w K mg base (L2.CX P w) 3 "checked_size" ["op", "told", "part_sizes", "number"] (spCk K c)) (h_check_names : HasF P w K mg base (L2.CX P w) 3 "check_names" ["rows"] (spCn K c)) : HasF P w K mg base (L2.CX P w) 11 "sizes" ["program"] (spSs K c) := by
  refine hasX O sc_sizes (fun _ _ _ _ _ _ us hl => match us, hl with | [_], _ => rfl) (fun vs H Q E h => ?_) (fun f cdv A outer s_ H vs Q E hr h => ?_)
  · obtain ⟨v, j, rfl, _⟩ := h
    rfl
  obtain ⟨v, j, rfl, r, g, h40, hbS, hbI, q⟩ := h
  have hok := g.ok
  have hwk := g.walk h40
  have lS : (Jn.wds j.all).length = j.cnt := by rw [wds_map, List.length_map, all_cnt]
  refine ⟨_, (pss_cons (ps_set (i := 1) sc_sizes.nd rfl (by first | exact Or.inl rfl | exact Or.inr rfl) (pe_callHS h_joints (hr.mono (by first | decide | omega)) (by rfl) (fun σ => passAt tkX σ) (pa_cons (pv 0) pa_nil))) (pss_cons (ps_set (i := 2) sc_sizes.nd rfl (by first | exact Or.inl rfl | exact Or.inr rfl) (pe_callHS h_part_numbers (hr.mono (by first | decide | omega)) (by rfl) (fun σ => passAt tkX σ) (pa_cons (pv 0) pa_nil))) (pss_cons (ps_set (i := 3) sc_sizes.nd rfl (by first | exact Or.inl rfl | exact Or.inr rfl) (pe_op (kMul K) (pe_lst (pa_cons pe_int pa_nil)) (pe_callB (kLen K) (by rfl) B.len (by decide +kernel) (pa_cons (pv 1) pa_nil)))) (pss_cons (ps_for poX rfl (pi_revR (by rfl) BR (prg_1 (by rfl) B.range (pe_callB (kLen K) (by rfl) B.len (by decide +kernel) (pa_cons (pv 1) pa_nil)))) (pg_name (i := 4) sc_sizes.nd rfl (by first | exact Or.inl rfl | exact Or.inr rfl)) (pss_cons (ps_asg (pe_ix (kIx K) (pv 1) (pv 4) (fun _ _ => rfl)) (pg_tupK (n := 3) K rfl (pgs_cons (pg_name (i := 5) sc_sizes.nd rfl (by first | exact Or.inl rfl | exact Or.inr rfl)) (pgs_cons (pg_name (i := 6) sc_sizes.nd rfl (by first | exact Or.inl rfl | exact Or.inr rfl)) (pgs_cons (pg_name (i := 7) sc_sizes.nd rfl (by first | exact Or.inl rfl | exact Or.inr rfl)) pgs_nil))))) (pss_cons (ps_setLc (i := 8) (own := [("part", 9)]) (g := gName 9) (tt := tYes) rfl sc_sizes.nd rfl rfl (sw_true rfl rfl rfl (by decide +kernel)) (pi_tupK K (pe_ix (kIx K) (pv 2) (pv 4) (fun _ _ => rfl))) (blkOk_by (own := [("part", 9)]) (N := ["program", "rows", "parts", "found", "number", "op", "told", "_", "part_sizes", "part"]) (sc := defScope s_sizes) (by decide +kernel)) (fun _ _ _ _ _ => (pg_name (i := 9) sc_sizes.nd rfl (by first | exact Or.inl rfl | exact Or.inr rfl))) (fun _ _ _ _ _ => pts_nil) (fun _ _ _ _ _ => (pe_ix (kIx K) (pv 3) (pv 9) (fun _ _ => rfl)))) (pss_one (ps_asg (pe_callHS h_checked_size (hr.mono (by first | decide | omega)) (by rfl) (fun σ => passAt tkX σ) (pa_cons (pv 5) (pa_cons (pv 6) (pa_cons (pv 8) (pa_cons (pv 4) pa_nil))))) (pg_sub (pv 3) (pv 4) set_list)))))) (pss_cons (ps_expr (pe_callHS h_check_names (hr.mono (by first | decide | omega)) (by rfl) (fun σ => passAt tkX σ) (pa_cons (pv 1) pa_nil))) (pss_one (ps_ret (pe_callTy (kTup K) (by rfl) B.tuple (by decide +kernel) (pa_cons (pv 3) pa_nil))))))))), ?_⟩
  refine st0 [some v, none, none, none, none, none, none, none, none, none] rfl ?_
  walk_at "go"
  refine use_jts r hok h40 hwk fun H1 pr ws s1 hW hR => ?_
  walk_at "go"
  refine use_pn (r.mono (Ext.of_same s1) _ _) hok h40 hwk fun H2 pp rows s2 hP lP hrows => ?_
  have hW2 := Ext.of_same (K := K) s2 _ _ hW
  have hR2 := hR.mono (Ext.of_same (K := K) s2) _ _
  have lw : ws.length = j.cnt := by rw [hR.length, pys_length, all_cnt]
  walk_at "go"
  refine ⟨lk rfl, fun pz hpz => ?_⟩
  walk_at "go"
  refine u_lenT (Ext.new hpz _ _ hW2) ?_
  rw [lw]
  refine u_rep1 upd_same (by omega) fun pf hpf => ?_
  have s3 : Same H2 (upd (upd H2 pz (.lst [.int 0])) pf (.lst (List.replicate j.cnt (.int 0)))) := Same.new (same_new hpz _) hpf
  have hpf2 : H2 pf = none := by
    cases hh : H2 pf with
    | none => rfl
    | some o => rw [same_new hpz (.lst [V.int 0]) _ _ hh] at hpf; cases hpf
  have e0 : (List.replicate j.cnt (V.int 0)) = (List.replicate j.cnt (0 : Int)).map V.int := by rw [List.map_replicate]
  rw [e0]
  rw [e0] at s3
  have f0 : (upd (upd H2 pz (.lst [.int 0])) pf (.lst ((List.replicate j.cnt (0 : Int)).map V.int))) pf = some (.lst ((List.replicate j.cnt (0 : Int)).map V.int)) := upd_same
  generalize upd (upd H2 pz (.lst [.int 0])) pf (.lst ((List.replicate j.cnt (0 : Int)).map V.int)) = H3 at *
  have hW3 := Ext.of_same (K := K) s3 _ _ hW2
  walk_at "go"
  rw [lw]
  refine ⟨by omega, by omega, by omega, by omega, ?_⟩
  rw [show ((j.cnt : Int) - 0).toNat = j.cnt by omega]
  refine forC (fun i σ H' => ∃ (fds : List Int) (o4 o5 o6 o7 o8 : Option V), σ = [some v, some (.ref pr), some (.ref pp), some (.ref pf), o4, o5, o6, o7, o8, none] ∧ Same H2 H' ∧ H' pf = some (.lst (fds.map V.int)) ∧ fds.length = j.cnt ∧ ∀ y, j.cnt - i ≤ y → y < j.cnt → fds[y]? = (Jn.wds j.all)[y]? ∧ ∀ w, j.all[y]? = some w → w.bad = none)
    ⟨_, _, _, _, _, _, rfl, s3, f0, by rw [List.length_replicate], fun y h1 h2 => absurd h2 (by omega)⟩ ?_ ?_
  · rintro i σ H4 hi ⟨fds, o4, o5, o6, o7, o8, rfl, s4, f4, l4, h4⟩
    obtain ⟨x, hx⟩ : ∃ x, x = j.cnt - 1 - i := ⟨_, rfl⟩
    have hxc : x < j.cnt := by omega
    have ex : (0 + ((j.cnt : Nat) : Int) - 1 + (i : Int) * -1) = (x : Int) := by omega
    rw [ex]
    obtain ⟨xj, hxj⟩ : ∃ xj, j.all[x]? = some xj := ⟨_, List.getElem?_eq_getElem (by rw [all_cnt]; exact hxc)⟩
    obtain ⟨op, td, parts⟩ := xj
    obtain ⟨sz, hsz, hs1, hwd, hpp, hlp, lkin, hkin⟩ := wd_at g hxj
    have gfx := g.sub (List.mem_of_getElem? hxj)
    have gok := gfx.ok
    obtain ⟨shp1, shp2⟩ := Fx.shape (gfx.fit _ (all_self _))
    have hbx : (Jn.mk op td parts).bad = badO op td (Jn.wds parts) := by simp only [Jn.bad]
    have hSx : (Jn.wds j.all)[x]? = some sz := by rw [wds_map, List.getElem?_map, hxj, ← hwd] <;> rfl
    have hfit : ∀ p ∈ Jn.wds parts, 1 ≤ p ∧ p ≤ 64 := fun p hp => by
      obtain ⟨i', hi'⟩ := List.getElem?_of_mem hp
      obtain ⟨n, hn⟩ : ∃ n, (kinN (j.ups (-1) 0) x)[i']? = some n := ⟨_, List.getElem?_eq_getElem (by rw [lkin]; exact lt_of_get hi')⟩
      obtain ⟨n1, n2, p', hp1, hp2⟩ := hkin i' n hn
      rw [hi', Option.some.injEq] at hp1
      subst hp1
      refine ⟨hpp p hp, ?_⟩
      have hyn := lt_of_get hp2
      rw [lS] at hyn
      obtain ⟨w, hw⟩ : ∃ w, j.all[n]? = some w := ⟨_, List.getElem?_eq_getElem (by rw [all_cnt]; exact hyn)⟩
      rw [wds_map, List.getElem?_map, hw] at hp2
      have hp3 : w.wd = p := by simpa using hp2
      rw [← hp3]
      exact bad_le' ((h4 n (by omega) n2).2 w hw)
    obtain ⟨ps, eps0⟩ : ∃ ps, ps = Jn.wds parts := ⟨_, rfl⟩
    rw [← eps0] at hsz hpp hlp lkin hkin shp1 shp2 hbx hfit
    simp only [Jn.ok] at gok
    obtain ⟨u, hu, ru⟩ := hR2.get (i := x) (d := (Jn.mk op td parts).py) (by rw [pys_map, List.getElem?_map, hxj] <;> rfl)
    obtain ⟨pj, ta, qa, tv, pvs, rfl, hsj, hT, hTd, hq, hQ⟩ := (ru.mono (Ext.of_same s4) _ _).jn
    obtain ⟨rk, hrk, hrk2⟩ := hrows x hxc
    have hW4 := Ext.of_same (K := K) s4 _ _ hW2
    have hP4 := Ext.of_same (K := K) s4 _ _ hP
    have hrk4 := Ext.of_same (K := K) s4 _ _ hrk2
    walk_at "go"
    refine u_ixT hW4 (atI_nat hu) ?_
    walk_at "go"
    refine u_ixT hP4 (atI_nat hrk) ?_
    walk_at "go"
    intro D hD
    refine lc_tup (xs := nV (kinN (j.ups (-1) 0) x)) (fun k H' => H' D = some (.lst ((ps.take k).map V.int)) ∧ Same H4 H') ⟨upd_same, Same.upd_new (Same.refl H4) hD⟩ ?_ ?_ ?_
    · rintro k H' hk ⟨g1, g2⟩
      exact Ext.of_same g2 _ _ hrk4
    · rintro k y H' hy ⟨g1, g2⟩
      unfold nV at hy
      rw [List.getElem?_map, Option.map_eq_some_iff] at hy
      obtain ⟨n, hn, rfl⟩ := hy
      obtain ⟨n1, n2, p, hp1, hp2⟩ := hkin k n hn
      have e3 : atI (fds.map V.int) (n : Int) = some (.int p) := atI_nat (by rw [List.getElem?_map, (h4 n (by omega) n2).1, hp2] <;> rfl)
      walk_at "go"
      refine ⟨rfl, ?_⟩
      walk_at "go"
      refine u_ixL (SqL.of (g2 _ _ f4)) e3 ?_
      refine ⟨_, g1, ?_, ?_, Same.upd_new g2 hD⟩
      · rw [List.length_map, List.length_take]
        have := lt_of_get hp1
        have := hlp
        have := gok.2.2.2.1
        exact ls (by omega)
      · rw [upd_same, List.take_add_one, hp1, List.map_append] <;> rfl
    rintro H5 ⟨g1, g2⟩
    have eps : (nV (kinN (j.ups (-1) 0) x)).length = ps.length := by
      unfold nV
      rw [List.length_map, lkin]
    rw [eps, List.take_length] at g1
    walk_at "go"
    refine ⟨op, ta, D, tv, td, ps, x, sz, rfl, Ext.of_same g2 _ _ hT, hTd.mono (Ext.of_same g2) _ _, SqL.of g1, hfit, gok.2.1, hsz, shp1, shp2, fun k hk => ?_, fun hk H6 s6 => ?_⟩
    · have ef := fault_at hxj (hbx.trans hk) fun z w hz hw => (h4 z (by omega) (by have := lt_of_get hw; rw [all_cnt] at this; exact this)).2 w hw
      exact (hbI _ _ ef).mono ((s1.trans s2).trans (s4.trans g2))
    have f6 := (g2.trans s6) _ _ f4
    walk_at "go"
    refine u_setL f6 (n := x) ?_ ?_
    · unfold ixN
      rw [if_pos (by omega), if_pos (by rw [List.length_map]; omega)]
      rfl
    refine ⟨fds.set x sz, _, _, _, _, _, rfl, Same.upd_new ((s4.trans g2).trans s6) hpf2, by rw [upd_same, List.map_set], by rw [List.length_set]; exact l4, fun y h1 h2 => ?_⟩
    by_cases c : y = x
    · subst c
      rw [List.getElem?_set_self (by omega), hSx]
      refine ⟨rfl, fun w hw => ?_⟩
      rw [hxj, Option.some.injEq] at hw
      subst hw
      exact hbx.trans hk
    · rw [List.getElem?_set_ne (Ne.symm c)]
      exact h4 y (by omega) h2
  · rintro σ H4 ⟨fds, o4, o5, o6, o7, o8, rfl, s4, f4, l4, h4⟩
    have hall : ∀ (i : Nat) w, j.all[i]? = some w → w.bad = none := fun i w hw => (h4 i (by omega) (by have := lt_of_get hw; rw [all_cnt] at this; exact this)).2 w hw
    have efd : fds = Jn.wds j.all := by
      apply List.ext_getElem?
      intro y
      rcases Nat.lt_or_ge y j.cnt with z | z
      · exact (h4 y (by omega) z).1
      · rw [List.getElem?_eq_none (by omega), List.getElem?_eq_none (by omega)]
    subst efd
    have hW4 := Ext.of_same (K := K) s4 _ _ hW2
    have hR4 := hR2.mono (Ext.of_same (K := K) s4) _ _
    walk_at "go"
    refine ⟨pr, ws, j.all, rfl, hW4, hR4, g.fit, by rw [all_cnt]; exact h40, fun z hz => (hbS _ _ (fault_in hall hz)).mono ((s1.trans s2).trans s4), fun hz H5 s5 => ?_⟩
    walk_at "go"
    refine u_tupL (SqL.of (s5 _ _ f4)) fun l hl => ?_
    exact q (fault_no hall hz) _ l (Same.new (((s1.trans s2).trans s4).trans s5) hl) (SqT.of upd_same)
end
end Mine

/-! ### J2 -/
set_option maxHeartbeats 400000
namespace Mine
open PySem PySem.Spec L2
/-! ## a program that fits has no fault -/
mutual
theorem gd_wd {ks : Nat → Int} : ∀ (j : Jn) {s : Int}, Gd ks j s → j.wd = s
  | .mk op td parts, s, g => by
    obtain ⟨ps, h1, h2⟩ := g.step
    simp only [Jn.wd, gds_wds parts h1, h2, Option.getD_some]
theorem gds_wds {ks : Nat → Int} : ∀ (l : List Jn) {ss : List Int}, Gds ks l ss → Jn.wds l = ss
  | [], ss, h => by cases h; simp only [Jn.wds]
  | j :: r, ss, h => by
    cases h with
    | cons a b => simp only [Jn.wds, gd_wd j a, gds_wds r b]
end
theorem Gd.nobad {ks : Nat → Int} {j : Jn} {s : Int} (g : Gd ks j s) : j.bad = none := by
  have hs := g.sz
  obtain ⟨op, td, parts⟩ := j
  obtain ⟨ps, h1, h2⟩ := g.step
  obtain ⟨c1, c2⟩ := g.ck h1
  have e := gds_wds parts h1
  simp only [Jn.bad]
  rw [e]
  unfold badO
  rw [if_neg, if_neg, if_neg]
  · rw [h2, Option.getD_some]
    omega
  · rintro ⟨h, z⟩
    obtain ⟨i, k, p, rfl, rfl, hk⟩ := c2 h
    have z' : p < k := z
    omega
  · rintro ⟨h, z⟩
    obtain ⟨p, rfl⟩ := c1 h
    exact z rfl
theorem nf_gd {ks : Nat → Int} : ∀ (l : List Jn) (d : Str → Option Int), (∀ x ∈ l, ∃ t, Gd ks x t) → (∀ z k, d z = some k → ∃ i, i < 4 ∧ z = abc i ∧ k = ks i) → nf l d = none
  | [], _, _, _ => by simp only [nf]
  | .mk op td parts :: r, d, h, hd => by
    by_cases c : op = "in"
    · subst c
      obtain ⟨t, g⟩ := h _ List.mem_cons_self
      obtain ⟨i, hi, rfl⟩ := g.name
      have e : (d (abc i)).getD (ks i) = ks i := by
        cases hz : d (abc i) with
        | none => rfl
        | some k =>
          obtain ⟨i2, hi2, ez, ek⟩ := hd _ _ hz
          have := abc_inj hi hi2 ez
          subst this
          exact ek
      rw [nf_in, if_pos e]
      refine nf_gd r _ (fun x hx => h x (List.mem_cons_of_mem _ hx)) fun z k hz => ?_
      unfold nSet at hz
      split at hz
      · rename_i ez
        cases hz
        exact ⟨i, hi, ez, rfl⟩
      · exact hd z k hz
    · rw [nf_other c]
      exact nf_gd r d (fun x hx => h x (List.mem_cons_of_mem _ hx)) hd
theorem Gd.nofault {ks : Nat → Int} {j : Jn} {s : Int} (g : Gd ks j s) : j.fault = none := by
  refine fault_no (fun i w hw => ?_) (nf_gd _ _ g.sub fun z k hz => by cases hz)
  obtain ⟨t, gw⟩ := g.sub w (List.mem_of_getElem? hw)
  exact gw.nobad
end Mine

/-! ### J3 -/
namespace Mine
open PySem PySem.Spec L2
local macro_rules | `(tactic| walk_at "st") => `(tactic| first
  | ((with_reducible apply rd_var); exact rfl)
  | (with_reducible apply rd_c)
  | (with_reducible apply rd_seq)
  | (with_reducible apply rd_asg)
  | (with_reducible apply rd_gname)
  | (with_reducible apply rd_op)
  | (with_reducible apply rd_cb)
  | (with_reducible apply rd_cons)
  | (with_reducible apply rd_nil)
  | (with_reducible apply rd_if)
  | (with_reducible apply rd_test)
  | (with_reducible apply rd_bl)
  | (with_reducible apply rd_retE)
  | (with_reducible apply rd_ret)
  | (with_reducible apply rd_call)
  | (with_reducible apply rd_tup)
  | (with_reducible apply rd_lst)
  | (with_reducible apply rd_drop)
  | (with_reducible apply rd_next)
  | (with_reducible apply rd_ife)
  | (with_reducible apply rd_gsub)
  | (with_reducible apply rd_par)
  | (with_reducible apply rd_par_end)
  | (with_reducible apply rd_un)
  | (with_reducible apply rd_and)
  | (with_reducible apply rd_or)
  | (with_reducible apply rd_not)
  | (with_reducible apply rd_andV)
  | (with_reducible apply rd_orV)
  | (with_reducible apply rd_notV)
  | (with_reducible apply rd_chain)
  | (with_reducible apply rd_tB)
  | (with_reducible apply rd_brk)
  | (with_reducible apply rd_ct)
  | (with_reducible apply u_add)
  | (with_reducible apply u_sub)
  | (with_reducible apply u_lt)
  | (with_reducible apply u_le)
  | (with_reducible apply u_gt)
  | (with_reducible apply u_ge)
  | (with_reducible apply u_eqI)
  | (with_reducible apply u_eqS)
  | (with_reducible apply u_neI)
  | (with_reducible apply u_int)
  | (with_reducible apply u_intB)
  | (with_reducible apply u_max)
  | (with_reducible apply u_min)
  | (with_reducible apply u_neg)
  | ((with_reducible apply u_mod); focus first | assumption | decide | omega)
  | ((with_reducible apply u_div); focus first | decide | omega | (constructor <;> first | assumption | omega))
  | ((with_reducible apply u_mul); focus first | exact Or.inl (by omega) | exact Or.inr (by omega) | exact Or.inl (by decide) | exact Or.inr (by decide))
  | ((with_reducible apply u_ixL); (focus (first | assumption | exact SqL.of (by assumption) | exact SqL.of upd_same)); exact rfl)
  | ((with_reducible apply u_lenL); focus (first | assumption | exact SqL.of (by assumption) | exact SqL.of upd_same))
  | ((with_reducible apply u_lenT); focus (first | assumption | exact SqT.of (by assumption) | exact SqT.of upd_same))
  | ((with_reducible apply u_setL); (focus (first | assumption | exact upd_same)); exact rfl)
  | (with_reducible apply rd_chain3)
  | (with_reducible apply rd_tru)
  | (with_reducible apply rd_truB)
  | ((with_reducible apply rd_truL); focus (first | assumption | exact SqL.of (by assumption) | exact SqL.of upd_same))
  | (with_reducible apply rd_bm)
  | (with_reducible apply rd_bm0)
  | ((with_reducible apply rd_tyL); focus (first | exact SqL.of (by assumption) | exact SqL.of upd_same))
  | (with_reducible apply u_min3)
  | (with_reducible apply rd_rev)
  | (with_reducible apply rd_iList)
  | (with_reducible apply rd_iTup)
  | (with_reducible apply rd_for)
  | (with_reducible apply rd_rng1)
  | (with_reducible apply rd_rng2)
  | ((with_reducible apply rd_rng1e); (focus omega); (focus omega))
  | ((with_reducible apply rd_rng2e); (focus omega))
  | (with_reducible apply rd_gcons)
  | (with_reducible apply rd_gnil)
  | (with_reducible apply rd_retN)
  | (with_reducible apply g_eqI)
  | (with_reducible apply g_eqS)
  | (with_reducible apply g_neI)
  | (with_reducible apply g_neS)
  | (with_reducible apply g_neB)
  | (with_reducible apply rd_xf)
  | (with_reducible apply rd_raiseE)
  | (with_reducible apply rd_callS)
  | (with_reducible apply u_inD)
  | (with_reducible apply u_notInD)
  | (with_reducible apply u_inS)
  | (with_reducible apply u_notInS)
  | (with_reducible apply rd_iSeq)
  | ((with_reducible apply rd_seqL); (focus first | assumption | exact SqL.of (by assumption) | exact SqL.of upd_same))
  | ((with_reducible apply rd_seqT); (focus first | assumption | exact SqT.of (by assumption) | exact SqT.of upd_same))
  | (with_reducible apply rd_istr)
  | (with_reducible apply rd_istrE)
  | ((with_reducible apply u_isi); (focus (first | exact Or.inl rfl | exact Or.inr (Or.inl rfl) | exact Or.inr (Or.inr (Or.inl rfl)) | exact Or.inr (Or.inr (Or.inr rfl)))); (focus first | assumption | exact Rp.int _ | exact Rp.str _))
  | ((with_reducible apply rd_itL); (focus first | assumption | exact SqL.of (by assumption) | exact SqL.of upd_same))
  | ((with_reducible apply rd_itT); (focus first | assumption | exact SqT.of (by assumption) | exact SqT.of upd_same))
  | (with_reducible apply rd_lc)
  | (with_reducible apply rd_yes)
  | ((with_reducible apply u_pow); (focus (exact ⟨by decide, by decide, by decide⟩)))
  | (with_reducible apply u_mul; focus exact Or.inr cm)
  | (with_reducible apply rd_par3)
  | (with_reducible apply rd_par3_end)
  | ((with_reducible apply rd_aug); exact rfl)
  | (with_reducible apply rd_ipI)
  | (with_reducible apply rd_enA)
  | (with_reducible apply rd_revR)
  | (with_reducible apply rd_rg1)
  | (with_reducible apply rd_rng3)
  | ((with_reducible apply u_enT); (focus first | assumption | exact SqT.of (by assumption) | exact SqT.of upd_same))
  | ((with_reducible apply u_enL); (focus first | assumption | exact SqL.of (by assumption) | exact SqL.of upd_same))
  | (with_reducible apply rd_zip)
  | (with_reducible apply rd_lc2)
  | ((with_reducible apply rd_gtup); (focus first | assumption | exact SqT.of (by assumption) | exact SqT.of upd_same); (focus rfl))
  | (with_reducible apply rd_dnew)
  | (with_reducible apply rd_din)
  | (with_reducible apply rd_dget)
  | (with_reducible apply rd_dput)
  | (with_reducible apply rd_disp1)
  | (with_reducible apply rd_sl)
  | (with_reducible apply rd_part)
  | (with_reducible apply rd_partI)
  | (with_reducible apply rd_nopart)
  | (with_reducible apply u_isB)
  | (with_reducible apply u_repB)
  | (with_reducible apply u_notB)
  | (with_reducible apply rd_dc)
  | (with_reducible apply rd_bmT)
  | (with_reducible apply rd_tupF)
  | ((with_reducible apply rd_tyF); (focus assumption))
  | (with_reducible apply iteT)
  | (with_reducible apply iteF))
local macro_rules | `(tactic| walk_at "go") => `(tactic| repeat (walk_at "st"))
local macro_rules | `(tactic| walk_at "sp") => `(tactic| (first | refine rd_split (fun c => ?_) (fun c => ?_) | refine rd_splitN (fun c => ?_) (fun c => ?_) | refine rd_splitB (fun c => ?_) (fun c => ?_)))
local macro_rules | `(tactic| walk_at "nx") => `(tactic| repeat (first | (with_reducible apply iteF) | (with_reducible apply iteT) | (with_reducible apply rd_next)))

section
variable {P : Program} {w : World} {K : PySem.W.Frag} {mg : Str → Option Value} {base : Heap}
/-- whether a joint may come: it is a number of a joint that isn't made, and its parts are -/
def mayB (kin : Nat → List Nat) (bs : List Bool) : PyData → Bool
  | .int i => decide (0 ≤ i) && decide (i < bs.length) && !(bs.getD i.toNat true) && (kin i.toNat).all fun y => bs.getD y false
  | _ => false
/-- the parts of each joint, as the program holds them -/
def KinP (K : PySem.W.Frag) (H : Hp) (rows : List V) (n : Nat) (kin : Nat → List Nat) : Prop := rows.length = n ∧ ∀ x, x < n → (∀ y ∈ kin x, y < n) ∧ (kin x).length ≤ 40 ∧ ∃ r, rows[x]? = some (V.ref r) ∧ SqT K H r (nV (kin x))
theorem KinP.mono {K : PySem.W.Frag} {H H' : Hp} {rows : List V} {n : Nat} {kin : Nat → List Nat} (h : KinP K H rows n kin) (e : Ext K H H') : KinP K H' rows n kin := ⟨h.1, fun x hx => by
  obtain ⟨h1, h2, r, h3, h4⟩ := h.2 x hx
  exact ⟨h1, h2, r, h3, e _ _ h4⟩⟩
def spMc (K : PySem.W.Frag) : Sp := fun vs H Q _ => ∃ (v : V) (d : PyData) (pp pm : Addr) (rows : List V) (kin : Nat → List Nat) (bs : List Bool), vs = [v, .ref pp, .ref pm] ∧ Rp K H v d ∧ SqT K H pp rows ∧ KinP K H rows bs.length kin ∧ bs.length ≤ 40 ∧ H pm = some (.lst (bs.map V.bl)) ∧ ∀ H', Same H H' → Q (.bl (mayB kin bs d)) H'
theorem use_mc {K : PySem.W.Frag} {v : V} {d : PyData} {pp pm : Addr} {rows : List V} {kin : Nat → List Nat} {bs : List Bool} {H : Hp} {Q : VK} {E : XK} (r : Rp K H v d) (h1 : SqT K H pp rows) (h2 : KinP K H rows bs.length kin) (h3 : bs.length ≤ 40) (h4 : H pm = some (.lst (bs.map V.bl))) (q : ∀ H', Same H H' → Q (.bl (mayB kin bs d)) H') : spMc K [v, .ref pp, .ref pm] H Q E := ⟨v, d, pp, pm, rows, kin, bs, rfl, r, h1, h2, h3, h4, q⟩
abbrev s_may_come : Stmt := top 50
theorem sc_may_come : FnScope ["thing", "parts", "made", "part"] ["thing", "parts", "made"] (defScope s_may_come) := ⟨rfl, rfl, rfl, by decide +kernel, rfl, by decide +kernel, by decide +kernel⟩
theorem has_may_come (O : OwnF K mg "may_come" s_may_come) (B : Bl mg) (h_is_number : HasF P w K mg base CX0 1 "is_number" ["thing"] (spNum K)) : HasF P w K mg base CX0 2 "may_come" ["thing", "parts", "made"] (spMc K) := by
  refine has0 O sc_may_come (fun _ _ _ _ _ _ us hl => match us, hl with | [_, _, _], _ => rfl) (fun vs H Q E h => ?_) (fun f cdv A outer s_ H vs Q E hr h => ?_)
  · obtain ⟨v, d, pp, pm, rows, kin, bs, rfl, _⟩ := h
    rfl
  obtain ⟨v, d, pp, pm, rows, kin, bs, rfl, r, hP, hK, h40, hM, q⟩ := h
  refine ⟨_, (pss_cons (ps_if (PW.pt (pw_or (pt_not (pt_truthK K (pe_callH h_is_number (hr.mono (by first | decide | omega)) (by rfl) pass0 (pa_cons (pv 0) pa_nil)) (by intro _; rfl))) (pw_or (pt_not (pt_chain leU ltU pe_int (pv 0) (pe_callB (kLen K) (by rfl) B.len (by decide +kernel) (pa_cons (pv 1) pa_nil)))) (pw_or1 (pt_truthK K (pe_ix (kIx K) (pv 2) (pv 0) (fun _ _ => rfl)) (by intro _; rfl)))))) (pss_one (ps_ret pe_bl)) pss_nil) (pss_one (ps_ret (pe_callB (kAll K rfl) (by rfl) B.all (by decide +kernel) (pa_cons (pe_lc (own := [("part", 3)]) (g := gName 3) (tt := tYes) rfl sc_may_come.nd (pi_tupK K (pe_ix (kIx K) (pv 1) (pv 0) (fun _ _ => rfl))) (blkOk_by (own := [("part", 3)]) (N := ["thing", "parts", "made", "part"]) (sc := defScope s_may_come) (by decide +kernel)) (fun _ _ _ _ _ => (pg_name (i := 3) sc_may_come.nd rfl (by first | exact Or.inl rfl | exact Or.inr rfl))) (fun _ _ _ _ _ => pts_nil) (fun _ _ _ _ _ => (pe_ix (kIx K) (pv 2) (pv 3) (fun _ _ => rfl)))) pa_nil))))), ?_⟩
  refine st0 [some v, some (.ref pp), some (.ref pm), none] rfl ?_
  walk_at "go"
  refine use_num r ?_
  cases r with
  | int i =>
    refine ⟨true, rfl, ?_⟩
    refine iteF ?_
    walk_at "go"
    have l1 := hK.1
    by_cases c : 0 ≤ i
    · rw [decide_eq_true c]
      refine iteT ?_
      walk_at "go"
      rw [l1]
      by_cases c2 : i < (bs.length : Int)
      · rw [decide_eq_true c2, Bool.not_true]
        refine iteF ?_
        obtain ⟨x, rfl⟩ : ∃ n : Nat, i = n := ⟨i.toNat, by omega⟩
        have hx : x < bs.length := by omega
        obtain ⟨k1, k2, ra, k3, k4⟩ := hK.2 x hx
        have eb : (bs.map V.bl)[x]? = some (V.bl bs[x]) := by rw [List.getElem?_map, List.getElem?_eq_getElem hx] <;> rfl
        have em : mayB kin bs (.int (x : Int)) = (!bs[x] && (kin x).all fun y => bs.getD y false) := by
          simp only [mayB, Int.toNat_natCast]
          rw [decide_eq_true (show (0 : Int) ≤ (x : Int) by omega), decide_eq_true c2, List.getD_eq_getElem?_getD, List.getElem?_eq_getElem hx, Option.getD_some, Bool.true_and, Bool.true_and]
        rw [em] at q
        walk_at "go"
        refine u_ixL (SqL.of hM) (atI_nat eb) ?_
        cases hb : bs[x] with
        | true =>
          rw [hb] at q
          refine ⟨true, rfl, ?_⟩
          refine iteT ?_
          walk_at "go"
          exact q _ (Same.refl H)
        | false =>
          rw [hb] at q
          refine ⟨false, rfl, ?_⟩
          refine iteF ?_
          walk_at "go"
          refine u_ixT hP (atI_nat k3) ?_
          walk_at "go"
          intro D hD
          refine lc_tup (xs := nV (kin x)) (fun n H' => H' D = some (.lst (((kin x).take n).map fun y => V.bl (bs.getD y false))) ∧ Same H H') ⟨upd_same, Same.upd_new (Same.refl H) hD⟩ ?_ ?_ ?_
          · rintro n H' hn ⟨g1, g2⟩
            exact Ext.of_same g2 _ _ k4
          · rintro n y H' hy ⟨g1, g2⟩
            unfold nV at hy
            rw [List.getElem?_map, Option.map_eq_some_iff] at hy
            obtain ⟨m, hm, rfl⟩ := hy
            have hml := k1 m (List.mem_of_getElem? hm)
            have hn := lt_of_get hm
            have e3 : (bs.map V.bl)[m]? = some (V.bl (bs.getD m false)) := by rw [List.getElem?_map, List.getD_eq_getElem?_getD, List.getElem?_eq_getElem hml] <;> rfl
            walk_at "go"
            refine ⟨rfl, ?_⟩
            walk_at "go"
            refine u_ixL (SqL.of (g2 _ _ hM)) (atI_nat e3) ?_
            refine ⟨_, g1, ?_, ?_, Same.upd_new g2 hD⟩
            · rw [List.length_map, List.length_take]
              exact ls (by omega)
            · rw [upd_same, List.take_add_one, hm, List.map_append] <;> rfl
          rintro H5 ⟨g1, g2⟩
          have eps : (nV (kin x)).length = (kin x).length := by
            unfold nV
            rw [List.length_map]
          rw [eps, List.take_length] at g1
          walk_at "go"
          refine u_all (bs := (kin x).map fun y => bs.getD y false) (by rw [List.map_map]; exact SqL.of g1) ?_
          have ea : ((kin x).map fun y => bs.getD y false).all id = (kin x).all fun y => bs.getD y false := by
            rw [List.all_map]
            rfl
          rw [ea]
          exact q _ g2
      · rw [decide_eq_false c2, Bool.not_false]
        refine iteT ?_
        walk_at "go"
        have em : mayB kin bs (.int i) = false := by
          simp only [mayB]
          rw [decide_eq_false c2, Bool.and_false] <;> rfl
        rw [em] at q
        exact q _ (Same.refl H)
    · rw [decide_eq_false c]
      refine iteF ?_
      walk_at "go"
      refine iteT ?_
      walk_at "go"
      have em : mayB kin bs (.int i) = false := by
        simp only [mayB]
        rw [decide_eq_false c] <;> rfl
      rw [em] at q
      exact q _ (Same.refl H)
  | non =>
    refine ⟨false, rfl, ?_⟩
    refine iteT ?_
    walk_at "go"
    exact q _ (Same.refl H)
  | bl b =>
    refine ⟨false, rfl, ?_⟩
    refine iteT ?_
    walk_at "go"
    exact q _ (Same.refl H)
  | str z =>
    refine ⟨false, rfl, ?_⟩
    refine iteT ?_
    walk_at "go"
    exact q _ (Same.refl H)
  | tup _ _ =>
    refine ⟨false, rfl, ?_⟩
    refine iteT ?_
    walk_at "go"
    exact q _ (Same.refl H)
end
end Mine

/-! ### J4 -/
namespace Mine
open PySem PySem.Spec L2
local macro_rules | `(tactic| walk_at "st") => `(tactic| first
  | ((with_reducible apply rd_var); exact rfl)
  | (with_reducible apply rd_c)
  | (with_reducible apply rd_seq)
  | (with_reducible apply rd_asg)
  | (with_reducible apply rd_gname)
  | (with_reducible apply rd_op)
  | (with_reducible apply rd_cb)
  | (with_reducible apply rd_cons)
  | (with_reducible apply rd_nil)
  | (with_reducible apply rd_if)
  | (with_reducible apply rd_test)
  | (with_reducible apply rd_bl)
  | (with_reducible apply rd_retE)
  | (with_reducible apply rd_ret)
  | (with_reducible apply rd_call)
  | (with_reducible apply rd_tup)
  | (with_reducible apply rd_lst)
  | (with_reducible apply rd_drop)
  | (with_reducible apply rd_next)
  | (with_reducible apply rd_ife)
  | (with_reducible apply rd_gsub)
  | (with_reducible apply rd_par)
  | (with_reducible apply rd_par_end)
  | (with_reducible apply rd_un)
  | (with_reducible apply rd_and)
  | (with_reducible apply rd_or)
  | (with_reducible apply rd_not)
  | (with_reducible apply rd_andV)
  | (with_reducible apply rd_orV)
  | (with_reducible apply rd_notV)
  | (with_reducible apply rd_chain)
  | (with_reducible apply rd_tB)
  | (with_reducible apply rd_brk)
  | (with_reducible apply rd_ct)
  | (with_reducible apply u_add)
  | (with_reducible apply u_sub)
  | (with_reducible apply u_lt)
  | (with_reducible apply u_le)
  | (with_reducible apply u_gt)
  | (with_reducible apply u_ge)
  | (with_reducible apply u_eqI)
  | (with_reducible apply u_eqS)
  | (with_reducible apply u_neI)
  | (with_reducible apply u_int)
  | (with_reducible apply u_intB)
  | (with_reducible apply u_max)
  | (with_reducible apply u_min)
  | (with_reducible apply u_neg)
  | ((with_reducible apply u_mod); focus first | assumption | decide | omega)
  | ((with_reducible apply u_div); focus first | decide | omega | (constructor <;> first | assumption | omega))
  | ((with_reducible apply u_mul); focus first | exact Or.inl (by omega) | exact Or.inr (by omega) | exact Or.inl (by decide) | exact Or.inr (by decide))
  | ((with_reducible apply u_ixL); (focus (first | assumption | exact SqL.of (by assumption) | exact SqL.of upd_same)); exact rfl)
  | ((with_reducible apply u_lenL); focus (first | assumption | exact SqL.of (by assumption) | exact SqL.of upd_same))
  | ((with_reducible apply u_lenT); focus (first | assumption | exact SqT.of (by assumption) | exact SqT.of upd_same))
  | ((with_reducible apply u_setL); (focus (first | assumption | exact upd_same)); exact rfl)
  | (with_reducible apply rd_chain3)
  | (with_reducible apply rd_tru)
  | (with_reducible apply rd_truB)
  | ((with_reducible apply rd_truL); focus (first | assumption | exact SqL.of (by assumption) | exact SqL.of upd_same))
  | (with_reducible apply rd_bm)
  | (with_reducible apply rd_bm0)
  | ((with_reducible apply rd_tyL); focus (first | exact SqL.of (by assumption) | exact SqL.of upd_same))
  | (with_reducible apply u_min3)
  | (with_reducible apply rd_rev)
  | (with_reducible apply rd_iList)
  | (with_reducible apply rd_iTup)
  | (with_reducible apply rd_for)
  | (with_reducible apply rd_rng1)
  | (with_reducible apply rd_rng2)
  | ((with_reducible apply rd_rng1e); (focus omega); (focus omega))
  | ((with_reducible apply rd_rng2e); (focus omega))
  | (with_reducible apply rd_gcons)
  | (with_reducible apply rd_gnil)
  | (with_reducible apply rd_retN)
  | (with_reducible apply g_eqI)
  | (with_reducible apply g_eqS)
  | (with_reducible apply g_neI)
  | (with_reducible apply g_neS)
  | (with_reducible apply g_neB)
  | (with_reducible apply rd_xf)
  | (with_reducible apply rd_raiseE)
  | (with_reducible apply rd_callS)
  | (with_reducible apply u_inD)
  | (with_reducible apply u_notInD)
  | (with_reducible apply u_inS)
  | (with_reducible apply u_notInS)
  | (with_reducible apply rd_iSeq)
  | ((with_reducible apply rd_seqL); (focus first | assumption | exact SqL.of (by assumption) | exact SqL.of upd_same))
  | ((with_reducible apply rd_seqT); (focus first | assumption | exact SqT.of (by assumption) | exact SqT.of upd_same))
  | (with_reducible apply rd_istr)
  | (with_reducible apply rd_istrE)
  | ((with_reducible apply u_isi); (focus (first | exact Or.inl rfl | exact Or.inr (Or.inl rfl) | exact Or.inr (Or.inr (Or.inl rfl)) | exact Or.inr (Or.inr (Or.inr rfl)))); (focus first | assumption | exact Rp.int _ | exact Rp.str _))
  | ((with_reducible apply rd_itL); (focus first | assumption | exact SqL.of (by assumption) | exact SqL.of upd_same))
  | ((with_reducible apply rd_itT); (focus first | assumption | exact SqT.of (by assumption) | exact SqT.of upd_same))
  | (with_reducible apply rd_lc)
  | (with_reducible apply rd_yes)
  | ((with_reducible apply u_pow); (focus (exact ⟨by decide, by decide, by decide⟩)))
  | (with_reducible apply u_mul; focus exact Or.inr cm)
  | (with_reducible apply rd_par3)
  | (with_reducible apply rd_par3_end)
  | ((with_reducible apply rd_aug); exact rfl)
  | (with_reducible apply rd_ipI)
  | (with_reducible apply rd_enA)
  | (with_reducible apply rd_revR)
  | (with_reducible apply rd_rg1)
  | (with_reducible apply rd_rng3)
  | ((with_reducible apply u_enT); (focus first | assumption | exact SqT.of (by assumption) | exact SqT.of upd_same))
  | ((with_reducible apply u_enL); (focus first | assumption | exact SqL.of (by assumption) | exact SqL.of upd_same))
  | (with_reducible apply rd_zip)
  | (with_reducible apply rd_lc2)
  | ((with_reducible apply rd_gtup); (focus first | assumption | exact SqT.of (by assumption) | exact SqT.of upd_same); (focus rfl))
  | (with_reducible apply rd_dnew)
  | (with_reducible apply rd_din)
  | (with_reducible apply rd_dget)
  | (with_reducible apply rd_dput)
  | (with_reducible apply rd_disp1)
  | (with_reducible apply rd_sl)
  | (with_reducible apply rd_part)
  | (with_reducible apply rd_partI)
  | (with_reducible apply rd_nopart)
  | (with_reducible apply u_isB)
  | (with_reducible apply u_repB)
  | (with_reducible apply u_notB)
  | (with_reducible apply rd_dc)
  | (with_reducible apply rd_bmT)
  | (with_reducible apply rd_tupF)
  | ((with_reducible apply rd_tyF); (focus assumption))
  | (with_reducible apply iteT)
  | (with_reducible apply iteF))
local macro_rules | `(tactic| walk_at "go") => `(tactic| repeat (walk_at "st"))
local macro_rules | `(tactic| walk_at "sp") => `(tactic| (first | refine rd_split (fun c => ?_) (fun c => ?_) | refine rd_splitN (fun c => ?_) (fun c => ?_) | refine rd_splitB (fun c => ?_) (fun c => ?_)))
local macro_rules | `(tactic| walk_at "nx") => `(tactic| repeat (first | (with_reducible apply iteF) | (with_reducible apply iteT) | (with_reducible apply rd_next)))

section
variable {P : Program} {w : World} {K : PySem.W.Frag} {mg : Str → Option Value} {base : Heap}
def setD (bs : List Bool) : PyData → List Bool
  | .int i => bs.set i.toNat true
  | _ => bs
/-- the first thing of an order that may not come; else how many, or -1 where all are made -/
def ofB (kin : Nat → List Nat) : List PyData → List Bool → Nat → Int
  | [], bs, i => if bs.all id then -1 else (i : Int)
  | d :: r, bs, i => if mayB kin bs d then ofB kin r (setD bs d) (i + 1) else (i : Int)
theorem ofB_cons {kin : Nat → List Nat} {d : PyData} {r : List PyData} {bs : List Bool} {i : Nat} : ofB kin (d :: r) bs i = if mayB kin bs d then ofB kin r (setD bs d) (i + 1) else (i : Int) := rfl
def spOf (K : PySem.W.Frag) : Sp := fun vs H Q _ => ∃ (v : V) (j : Jn) (po : Addr) (xs : List V) (ds : List PyData), vs = [v, .ref po] ∧ Rp K H v j.py ∧ j.ok ∧ j.cnt ≤ 40 ∧ walk 42 [j.py] 0 = none ∧ SqT K H po xs ∧ Rps K H xs ds ∧ ds.length ≤ 1000 ∧
  ∀ H', Same H H' → Q (.int (ofB (kinN (j.ups (-1) 0)) ds (List.replicate j.cnt false) 0)) H'
theorem use_of {K : PySem.W.Frag} {v : V} {j : Jn} {po : Addr} {xs : List V} {ds : List PyData} {H : Hp} {Q : VK} {E : XK} (r : Rp K H v j.py) (h : j.ok) (h1 : j.cnt ≤ 40) (h2 : walk 42 [j.py] 0 = none) (h3 : SqT K H po xs) (h4 : Rps K H xs ds) (h5 : ds.length ≤ 1000) (q : ∀ H', Same H H' → Q (.int (ofB (kinN (j.ups (-1) 0)) ds (List.replicate j.cnt false) 0)) H') : spOf K [v, .ref po] H Q E := ⟨v, j, po, xs, ds, rfl, r, h, h1, h2, h3, h4, h5, q⟩
theorem drop_getD {l : List PyData} {i : Nat} {y : PyData} (h : l[i]? = some y) : l.drop i = y :: l.drop (i + 1) := by
  have := lt_of_get h
  rw [List.drop_eq_getElem_cons this]
  rw [List.getElem?_eq_getElem this, Option.some.injEq] at h
  rw [h]
theorem mayB_int {kin : Nat → List Nat} {bs : List Bool} {d : PyData} (h : mayB kin bs d = true) : ∃ x : Nat, d = .int (x : Int) ∧ x < bs.length := by
  cases d with
  | int i =>
    simp only [mayB, Bool.and_eq_true, decide_eq_true_eq] at h
    refine ⟨i.toNat, ?_, by omega⟩
    rw [show ((i.toNat : Nat) : Int) = i by omega]
  | _ => cases h
abbrev s_order_fault : Stmt := top 51
theorem sc_order_fault : FnScope ["program", "order", "parts", "made", "index", "thing"] ["program", "order"] (defScope s_order_fault) := ⟨rfl, rfl, rfl, by decide +kernel, rfl, by decide +kernel, by decide +kernel⟩
theorem has_order_fault (O : OwnF K mg "order_fault" s_order_fault) (B : Bl mg) (h_part_numbers : HasF P w K mg base (L2.CX P w) 10 "part_numbers" ["program"] (spPn K)) (h_may_come : HasF P w K mg base CX0 2 "may_come" ["thing", "parts", "made"] (spMc K)) : HasF P w K mg base (L2.CX P w) 11 "order_fault" ["program", "order"] (spOf K) := by
  refine hasX O sc_order_fault (fun _ _ _ _ _ _ us hl => match us, hl with | [_, _], _ => rfl) (fun vs H Q E h => ?_) (fun f cdv A outer s_ H vs Q E hr h => ?_)
  · obtain ⟨v, j, po, xs, ds, rfl, _⟩ := h
    rfl
  obtain ⟨v, j, po, xs, ds, rfl, r, hok, h40, hwk, hO, hD, h1000, q⟩ := h
  have lx : xs.length = ds.length := hD.length
  refine ⟨_, (pss_cons (ps_set (i := 2) sc_order_fault.nd rfl (by first | exact Or.inl rfl | exact Or.inr rfl) (pe_callHS h_part_numbers (hr.mono (by first | decide | omega)) (by rfl) (fun σ => passAt tkX σ) (pa_cons (pv 0) pa_nil))) (pss_cons (ps_set (i := 3) sc_order_fault.nd rfl (by first | exact Or.inl rfl | exact Or.inr rfl) (pe_op (kMul K) (pe_lst (pa_cons pe_bl pa_nil)) (pe_callB (kLen K) (by rfl) B.len (by decide +kernel) (pa_cons (pv 2) pa_nil)))) (pss_cons (ps_for poX rfl (pi_enAK K (by rfl) B.enumerate (pa_cons (pv 1) pa_nil)) (pg_tupK (n := 2) K rfl (pgs_cons (pg_name (i := 4) sc_order_fault.nd rfl (by first | exact Or.inl rfl | exact Or.inr rfl)) (pgs_cons (pg_name (i := 5) sc_order_fault.nd rfl (by first | exact Or.inl rfl | exact Or.inr rfl)) pgs_nil))) (pss_cons (ps_if (pt_not (pt_truthK K (pe_callH h_may_come (hr.mono (by first | decide | omega)) (by rfl) pass0 (pa_cons (pv 5) (pa_cons (pv 2) (pa_cons (pv 3) pa_nil)))) (by intro _; rfl))) (pss_one (ps_ret (pv 4))) pss_nil) (pss_one (ps_asg pe_bl (pg_sub (pv 3) (pv 5) set_list))))) (pss_one (ps_ret (pe_ifExp (pt_val (pe_callB (kAll K rfl) (by rfl) B.all (by decide +kernel) (pa_cons (pv 3) pa_nil))) (pe_un un_neg pe_int) (pe_callB (kLen K) (by rfl) B.len (by decide +kernel) (pa_cons (pv 1) pa_nil)))))))), ?_⟩
  refine st0 [some v, some (.ref po), none, none, none, none] rfl ?_
  walk_at "go"
  refine use_pn r hok h40 hwk fun H1 pp rows s1 hP lP hrows => ?_
  have hul := ups_len j (-1) 0
  generalize Jn.ups (-1) 0 j = us at *
  have hK : KinP K H1 rows j.cnt (kinN us) := ⟨lP, fun x hx => ⟨fun y hy => by
    unfold kinN at hy
    rw [List.mem_filter, List.mem_range] at hy
    omega, by
    unfold kinN
    exact Nat.le_trans (List.length_filter_le _ _) (by rw [List.length_range]; omega), hrows x hx⟩⟩
  walk_at "go"
  refine ⟨lk rfl, fun pz hpz => ?_⟩
  walk_at "go"
  refine u_lenT (Ext.new hpz _ _ hP) ?_
  rw [lP]
  refine u_rep1 upd_same (by omega) fun pf hpf => ?_
  have s3 : Same H1 (upd (upd H1 pz (.lst [.bl false])) pf (.lst (List.replicate j.cnt (.bl false)))) := Same.new (same_new hpz _) hpf
  have hpf1 : H1 pf = none := by
    cases hh : H1 pf with
    | none => rfl
    | some o => rw [same_new hpz (.lst [V.bl false]) _ _ hh] at hpf; cases hpf
  have e0 : (List.replicate j.cnt (V.bl false)) = (List.replicate j.cnt false).map V.bl := by rw [List.map_replicate]
  rw [e0]
  rw [e0] at s3
  have f0 : (upd (upd H1 pz (.lst [.bl false])) pf (.lst ((List.replicate j.cnt false).map V.bl))) pf = some (.lst ((List.replicate j.cnt false).map V.bl)) := upd_same
  generalize upd (upd H1 pz (.lst [.bl false])) pf (.lst ((List.replicate j.cnt false).map V.bl)) = H3 at *
  have hO3 := Ext.of_same (K := K) (s1.trans s3) _ _ hO
  walk_at "go"
  refine HE.forET (xs := xs) (fun i σ H' => ∃ (o4 o5 : Option V) (bs : List Bool), σ = [some v, some (.ref po), some (.ref pp), some (.ref pf), o4, o5] ∧ Same H1 H' ∧ H' pf = some (.lst (bs.map V.bl)) ∧ bs.length = j.cnt ∧ ofB (kinN us) (ds.drop i) bs i = ofB (kinN us) ds (List.replicate j.cnt false) 0)
    ⟨_, _, _, rfl, s3, f0, by rw [List.length_replicate], rfl⟩ ?_ ?_ ?_
  · rintro i σ H' hi ⟨o4, o5, bs, rfl, k1, k2, k3, k4⟩
    exact Ext.of_same (s1.trans k1) _ _ hO
  · rintro i x t σ H' hx ⟨o4, o5, bs, rfl, k1, k2, k3, k4⟩ ht
    obtain ⟨d, hd, rd⟩ := hD.getV hx
    rw [drop_getD hd] at k4
    have st : Same H' (upd H' t (.tup [.int (i : Nat), x])) := same_new ht _
    have k5 := k1.trans st
    have k6 := st _ _ k2
    have rd' := rd.mono (Ext.of_same (s1.trans k5)) _ _
    have sT : SqT K (upd H' t (.tup [.int (i : Nat), x])) t [.int (i : Nat), x] := SqT.of upd_same
    generalize upd H' t (.tup [.int (i : Nat), x]) = H4 at *
    walk_at "go"
    refine use_mc rd' (Ext.of_same k5 _ _ hP) (by rw [k3]; exact hK.mono (Ext.of_same k5)) (by omega) k6 fun H5 s5 => ?_
    rw [ofB_cons] at k4
    cases em : mayB (kinN us) bs d with
    | false =>
      rw [em] at k4
      refine ⟨false, rfl, ?_⟩
      refine iteT ?_
      walk_at "go"
      rw [if_neg (by simp)] at k4
      rw [k4]
      exact q _ ((s1.trans k5).trans s5)
    | true =>
      rw [em] at k4
      obtain ⟨x', rfl, hx'⟩ := mayB_int em
      cases rd'
      refine ⟨true, rfl, ?_⟩
      refine iteF ?_
      walk_at "go"
      have f6 := s5 _ _ k6
      refine u_setL f6 (n := x') ?_ ?_
      · unfold ixN
        rw [if_pos (by omega), if_pos (by rw [List.length_map]; omega)]
        rfl
      rw [if_pos rfl] at k4
      refine ⟨_, _, bs.set x' true, rfl, Same.upd_new (k5.trans s5) hpf1, by rw [upd_same, List.map_set], by rw [List.length_set]; exact k3, ?_⟩
      rw [← k4]
      simp only [setD, Int.toNat_natCast]
  · rintro σ H4 ⟨o4, o5, bs, rfl, k1, k2, k3, k4⟩
    rw [lx, List.drop_length] at k4
    have k5 : ofB (kinN us) ds (List.replicate j.cnt false) 0 = if bs.all id then -1 else (ds.length : Int) := k4.symm
    rw [k5] at q
    walk_at "go"
    refine u_all (bs := bs) (SqL.of k2) ?_
    cases ea : bs.all id with
    | true =>
      rw [ea] at q
      refine ⟨true, rfl, ?_⟩
      refine iteT ?_
      walk_at "go"
      exact q _ (s1.trans k1)
    | false =>
      rw [ea] at q
      refine ⟨false, rfl, ?_⟩
      refine iteF ?_
      walk_at "go"
      refine u_lenT (Ext.of_same (s1.trans k1) _ _ hO) ?_
      rw [lx]
      exact q _ (s1.trans k1)
end
end Mine

/-! ### J5 -/
namespace Mine
open PySem PySem.Spec L2
local macro_rules | `(tactic| walk_at "st") => `(tactic| first
  | ((with_reducible apply rd_var); exact rfl)
  | (with_reducible apply rd_c)
  | (with_reducible apply rd_seq)
  | (with_reducible apply rd_asg)
  | (with_reducible apply rd_gname)
  | (with_reducible apply rd_op)
  | (with_reducible apply rd_cb)
  | (with_reducible apply rd_cons)
  | (with_reducible apply rd_nil)
  | (with_reducible apply rd_if)
  | (with_reducible apply rd_test)
  | (with_reducible apply rd_bl)
  | (with_reducible apply rd_retE)
  | (with_reducible apply rd_ret)
  | (with_reducible apply rd_call)
  | (with_reducible apply rd_tup)
  | (with_reducible apply rd_lst)
  | (with_reducible apply rd_drop)
  | (with_reducible apply rd_next)
  | (with_reducible apply rd_ife)
  | (with_reducible apply rd_gsub)
  | (with_reducible apply rd_par)
  | (with_reducible apply rd_par_end)
  | (with_reducible apply rd_un)
  | (with_reducible apply rd_and)
  | (with_reducible apply rd_or)
  | (with_reducible apply rd_not)
  | (with_reducible apply rd_andV)
  | (with_reducible apply rd_orV)
  | (with_reducible apply rd_notV)
  | (with_reducible apply rd_chain)
  | (with_reducible apply rd_tB)
  | (with_reducible apply rd_brk)
  | (with_reducible apply rd_ct)
  | (with_reducible apply u_add)
  | (with_reducible apply u_sub)
  | (with_reducible apply u_lt)
  | (with_reducible apply u_le)
  | (with_reducible apply u_gt)
  | (with_reducible apply u_ge)
  | (with_reducible apply u_eqI)
  | (with_reducible apply u_eqS)
  | (with_reducible apply u_neI)
  | (with_reducible apply u_int)
  | (with_reducible apply u_intB)
  | (with_reducible apply u_max)
  | (with_reducible apply u_min)
  | (with_reducible apply u_neg)
  | ((with_reducible apply u_mod); focus first | assumption | decide | omega)
  | ((with_reducible apply u_div); focus first | decide | omega | (constructor <;> first | assumption | omega))
  | ((with_reducible apply u_mul); focus first | exact Or.inl (by omega) | exact Or.inr (by omega) | exact Or.inl (by decide) | exact Or.inr (by decide))
  | ((with_reducible apply u_ixL); (focus (first | assumption | exact SqL.of (by assumption) | exact SqL.of upd_same)); exact rfl)
  | ((with_reducible apply u_lenL); focus (first | assumption | exact SqL.of (by assumption) | exact SqL.of upd_same))
  | ((with_reducible apply u_lenT); focus (first | assumption | exact SqT.of (by assumption) | exact SqT.of upd_same))
  | ((with_reducible apply u_setL); (focus (first | assumption | exact upd_same)); exact rfl)
  | (with_reducible apply rd_chain3)
  | (with_reducible apply rd_tru)
  | (with_reducible apply rd_truB)
  | ((with_reducible apply rd_truL); focus (first | assumption | exact SqL.of (by assumption) | exact SqL.of upd_same))
  | (with_reducible apply rd_bm)
  | (with_reducible apply rd_bm0)
  | ((with_reducible apply rd_tyL); focus (first | exact SqL.of (by assumption) | exact SqL.of upd_same))
  | (with_reducible apply u_min3)
  | (with_reducible apply rd_rev)
  | (with_reducible apply rd_iList)
  | (with_reducible apply rd_iTup)
  | (with_reducible apply rd_for)
  | (with_reducible apply rd_rng1)
  | (with_reducible apply rd_rng2)
  | ((with_reducible apply rd_rng1e); (focus omega); (focus omega))
  | ((with_reducible apply rd_rng2e); (focus omega))
  | (with_reducible apply rd_gcons)
  | (with_reducible apply rd_gnil)
  | (with_reducible apply rd_retN)
  | (with_reducible apply g_eqI)
  | (with_reducible apply g_eqS)
  | (with_reducible apply g_neI)
  | (with_reducible apply g_neS)
  | (with_reducible apply g_neB)
  | (with_reducible apply rd_xf)
  | (with_reducible apply rd_raiseE)
  | (with_reducible apply rd_callS)
  | (with_reducible apply u_inD)
  | (with_reducible apply u_notInD)
  | (with_reducible apply u_inS)
  | (with_reducible apply u_notInS)
  | (with_reducible apply rd_iSeq)
  | ((with_reducible apply rd_seqL); (focus first | assumption | exact SqL.of (by assumption) | exact SqL.of upd_same))
  | ((with_reducible apply rd_seqT); (focus first | assumption | exact SqT.of (by assumption) | exact SqT.of upd_same))
  | (with_reducible apply rd_istr)
  | (with_reducible apply rd_istrE)
  | ((with_reducible apply u_isi); (focus (first | exact Or.inl rfl | exact Or.inr (Or.inl rfl) | exact Or.inr (Or.inr (Or.inl rfl)) | exact Or.inr (Or.inr (Or.inr rfl)))); (focus first | assumption | exact Rp.int _ | exact Rp.str _))
  | ((with_reducible apply rd_itL); (focus first | assumption | exact SqL.of (by assumption) | exact SqL.of upd_same))
  | ((with_reducible apply rd_itT); (focus first | assumption | exact SqT.of (by assumption) | exact SqT.of upd_same))
  | (with_reducible apply rd_lc)
  | (with_reducible apply rd_yes)
  | ((with_reducible apply u_pow); (focus (exact ⟨by decide, by decide, by decide⟩)))
  | (with_reducible apply u_mul; focus exact Or.inr cm)
  | (with_reducible apply rd_par3)
  | (with_reducible apply rd_par3_end)
  | ((with_reducible apply rd_aug); exact rfl)
  | (with_reducible apply rd_ipI)
  | (with_reducible apply rd_enA)
  | (with_reducible apply rd_revR)
  | (with_reducible apply rd_rg1)
  | (with_reducible apply rd_rng3)
  | ((with_reducible apply u_enT); (focus first | assumption | exact SqT.of (by assumption) | exact SqT.of upd_same))
  | ((with_reducible apply u_enL); (focus first | assumption | exact SqL.of (by assumption) | exact SqL.of upd_same))
  | (with_reducible apply rd_zip)
  | (with_reducible apply rd_lc2)
  | ((with_reducible apply rd_gtup); (focus first | assumption | exact SqT.of (by assumption) | exact SqT.of upd_same); (focus rfl))
  | (with_reducible apply rd_dnew)
  | (with_reducible apply rd_din)
  | (with_reducible apply rd_dget)
  | (with_reducible apply rd_dput)
  | (with_reducible apply rd_disp1)
  | (with_reducible apply rd_sl)
  | (with_reducible apply rd_part)
  | (with_reducible apply rd_partI)
  | (with_reducible apply rd_nopart)
  | (with_reducible apply u_isB)
  | (with_reducible apply u_repB)
  | (with_reducible apply u_notB)
  | (with_reducible apply rd_dc)
  | (with_reducible apply rd_bmT)
  | (with_reducible apply rd_tupF)
  | ((with_reducible apply rd_tyF); (focus assumption))
  | (with_reducible apply iteT)
  | (with_reducible apply iteF))
local macro_rules | `(tactic| walk_at "go") => `(tactic| repeat (walk_at "st"))
local macro_rules | `(tactic| walk_at "sp") => `(tactic| (first | refine rd_split (fun c => ?_) (fun c => ?_) | refine rd_splitN (fun c => ?_) (fun c => ?_) | refine rd_splitB (fun c => ?_) (fun c => ?_)))
local macro_rules | `(tactic| walk_at "nx") => `(tactic| repeat (first | (with_reducible apply iteF) | (with_reducible apply iteT) | (with_reducible apply rd_next)))

section
variable {P : Program} {w : World} {K : PySem.W.Frag} {mg : Str → Option Value} {base : Heap}
theorem use_ss {K : PySem.W.Frag} {c : Fcl} {v : V} {j : Jn} {H : Hp} {Q : VK} {E : XK} (r : Rp K H v j.py) (g : Fx j) (h1 : j.cnt ≤ 40) (a1 : ∀ k z, j.fault = some (k, .str z) → RaisedV E H (c.of k) (.str z)) (a2 : ∀ k n, j.fault = some (k, .int n) → RaisedV E H (c.of k) (.int n)) (q : j.fault = none → ∀ (H' : Hp) (q : Addr), Same H H' → SqT K H' q ((Jn.wds j.all).map V.int) → Q (.ref q) H') : spSs K c [v] H Q E := ⟨v, j, rfl, r, g, h1, a1, a2, q⟩
structure ExmR (K : PySem.W.Frag) (c : Fcl) (cR : Addr) : Prop where
  one : ∀ f, PySem.W.exmOne K (.ref (c.of f)) (.ref cR) = some true
def spIs (K : PySem.W.Frag) : Sp := fun vs H Q _ => ∃ (v : V) (j : Jn), vs = [v] ∧ Rp K H v j.py ∧ Fx j ∧ j.cnt ≤ 40 ∧ ∀ H', Same H H' → Q (.bl j.fault.isNone) H'
theorem use_is {K : PySem.W.Frag} {v : V} {j : Jn} {H : Hp} {Q : VK} {E : XK} (r : Rp K H v j.py) (g : Fx j) (h1 : j.cnt ≤ 40) (q : ∀ H', Same H H' → Q (.bl j.fault.isNone) H') : spIs K [v] H Q E := ⟨v, j, rfl, r, g, h1, q⟩
abbrev s_is_sized : Stmt := top 48
theorem sc_is_sized : FnScope ["thing"] ["thing"] (defScope s_is_sized) := ⟨rfl, rfl, rfl, by decide +kernel, rfl, by decide +kernel, by decide +kernel⟩
theorem has_is_sized {fI cR : Addr} {c : Fcl} (O : OwnF K mg "is_sized" s_is_sized) (M_Refused : ErrC K mg fI "Refused" cR) (X : ExmR K c cR) (h_sizes : HasF P w K mg base (L2.CX P w) 11 "sizes" ["program"] (spSs K c)) : HasF P w K mg base CX0 12 "is_sized" ["thing"] (spIs K) := by
  refine has0 O sc_is_sized (fun _ _ _ _ _ _ us hl => match us, hl with | [_], _ => rfl) (fun vs H Q E h => ?_) (fun f cdv A outer s_ H vs Q E hr h => ?_)
  · obtain ⟨v, j, rfl, _⟩ := h
    rfl
  obtain ⟨v, j, rfl, r, g, h40, q⟩ := h
  refine ⟨_, (pss_cons (ps_try_mix rfl rfl takes0 (fun W pn xe tk _ => (pss_one (ps_expr (pe_callHS h_sizes (hr.mono (by first | decide | omega)) (by rfl) (fun σ => passAt tk σ) (pa_cons (pv 0) pa_nil))))) K rfl (Hds.plain ⟨rfl, by decide, Or.inl M_Refused.g⟩ (fun a oe cls d pn hz hf => (pss_one (ps_ret pe_bl))) Hds.nil)) (pss_one (ps_ret pe_bl))), ?_⟩
  refine st0 [some v] rfl ?_
  walk_at "go"
  refine use_ss r g h40 (fun k z ef H1 d1 s1 e1 => ?_) (fun k n ef H1 d1 s1 e1 => ?_) (fun ef H1 q1 s1 hq => ?_)
  · rw [ef] at q
    refine ⟨true, X.one k, fun _ a ha => ?_, fun z => nomatch z⟩
    walk_at "go"
    exact q _ s1
  · rw [ef] at q
    refine ⟨true, X.one k, fun _ a ha => ?_, fun z => nomatch z⟩
    walk_at "go"
    exact q _ s1
  · rw [ef] at q
    walk_at "go"
    exact q _ s1
def spCo (K : PySem.W.Frag) (cO : Addr) : Sp := fun vs H Q E => ∃ (v : V) (j : Jn) (po : Addr) (xs : List V) (ds : List PyData), vs = [v, .ref po] ∧ Rp K H v j.py ∧ j.ok ∧ j.cnt ≤ 40 ∧ walk 42 [j.py] 0 = none ∧ SqT K H po xs ∧ Rps K H xs ds ∧ ds.length ≤ 1000 ∧
  (∀ n : Int, ofB (kinN (j.ups (-1) 0)) ds (List.replicate j.cnt false) 0 = n → 0 ≤ n → RaisedV E H cO (.int n)) ∧ (ofB (kinN (j.ups (-1) 0)) ds (List.replicate j.cnt false) 0 < 0 → ∀ H', Same H H' → Q .non H')
abbrev s_check_order : Stmt := top 52
theorem sc_check_order : FnScope ["program", "order", "fault"] ["program", "order"] (defScope s_check_order) := ⟨rfl, rfl, rfl, by decide +kernel, rfl, by decide +kernel, by decide +kernel⟩
theorem has_check_order {fI cO : Addr} (O : OwnF K mg "check_order" s_check_order) (hI : InitF P w K mg base fI) (M_BadOrder : ErrC K mg fI "BadOrder" cO) (h_order_fault : HasF P w K mg base (L2.CX P w) 11 "order_fault" ["program", "order"] (spOf K)) : HasF P w K mg base (L2.CX P w) 12 "check_order" ["program", "order"] (spCo K cO) := by
  refine hasX O sc_check_order (fun _ _ _ _ _ _ us hl => match us, hl with | [_, _], _ => rfl) (fun vs H Q E h => ?_) (fun f cdv A outer s_ H vs Q E hr h => ?_)
  · obtain ⟨v, j, po, xs, ds, rfl, _⟩ := h
    rfl
  obtain ⟨v, j, po, xs, ds, rfl, r, hok, h40, hwk, hO, hD, h1000, hbad, q⟩ := h
  refine ⟨_, (pss_cons (ps_set (i := 2) sc_check_order.nd rfl (by first | exact Or.inl rfl | exact Or.inr rfl) (pe_callHS h_order_fault (hr.mono (by first | decide | omega)) (by rfl) (fun σ => passAt tkX σ) (pa_cons (pv 0) (pa_cons (pv 1) pa_nil)))) (pss_one (ps_if (pt_cmpR geU (pv 2) pe_int (nomark _)) (pss_one (ps_raiseE K hI M_BadOrder rfl (hr.mono (by decide)) tkX (pv 2) (by rfl))) pss_nil))), ?_⟩
  refine st0 [some v, some (.ref po), none] rfl ?_
  walk_at "go"
  refine use_of r hok h40 hwk hO hD h1000 fun H1 s1 => ?_
  obtain ⟨n, en⟩ : ∃ n, ofB (kinN (j.ups (-1) 0)) ds (List.replicate j.cnt false) 0 = n := ⟨_, rfl⟩
  rw [en] at q ⊢
  walk_at "go"
  refine rd_split (fun c => ?_) (fun c => ?_)
  · walk_at "go"
    exact u_raise M_BadOrder.c M_BadOrder.n fun d hd => hbad n en c _ d (Same.new s1 hd) upd_same
  · walk_at "go"
    exact q (by omega) _ s1
/-- whether d is an order of j -/
def isOrd (j : Jn) : PyData → Bool
  | .tuple ds => j.fault.isNone && decide (ofB (kinN (j.ups (-1) 0)) ds (List.replicate j.cnt false) 0 = -1)
  | _ => false
def spIo (K : PySem.W.Frag) : Sp := fun vs H Q _ => ∃ (v u : V) (j : Jn) (d : PyData), vs = [v, u] ∧ Rp K H v j.py ∧ Fx j ∧ j.cnt ≤ 40 ∧ Rp K H u d ∧ (∀ ds, d = .tuple ds → ds.length ≤ 1000) ∧ ∀ H', Same H H' → Q (.bl (isOrd j d)) H'
abbrev s_is_order : Stmt := top 53
theorem sc_is_order : FnScope ["program", "order"] ["program", "order"] (defScope s_is_order) := ⟨rfl, rfl, rfl, by decide +kernel, rfl, by decide +kernel, by decide +kernel⟩
theorem has_is_order (O : OwnF K mg "is_order" s_is_order) (B : Bl mg) (h_is_sized : HasF P w K mg base CX0 12 "is_sized" ["thing"] (spIs K)) (h_order_fault : HasF P w K mg base (L2.CX P w) 11 "order_fault" ["program", "order"] (spOf K)) : HasF P w K mg base CX0 13 "is_order" ["program", "order"] (spIo K) := by
  refine has0 O sc_is_order (fun _ _ _ _ _ _ us hl => match us, hl with | [_, _], _ => rfl) (fun vs H Q E h => ?_) (fun f cdv A outer s_ H vs Q E hr h => ?_)
  · obtain ⟨v, u, j, d, rfl, _⟩ := h
    rfl
  obtain ⟨v, u, j, d, rfl, r, g, h40, rd, h1000, q⟩ := h
  refine ⟨_, (pss_cons (ps_if (PW.pt (pw_or (pt_not (pt_truthK K (pe_callH h_is_sized (hr.mono (by first | decide | omega)) (by rfl) pass0 (pa_cons (pv 0) pa_nil)) (by intro _; rfl))) (pw_or1 (pt_not (pt_val (pe_callB (kIsi K) (by rfl) B.isinstance (by decide +kernel) (pa_cons (pv 1) (pa_cons (pe_bltn (v := .ty "tuple") (by rfl) B.tuple (by decide +kernel) rfl) pa_nil)))))))) (pss_one (ps_ret pe_bl)) pss_nil) (pss_one (ps_ret (pe_cmpR (kEqG K (hU hr)) (pe_callHS h_order_fault (hr.mono (by first | decide | omega)) (by rfl) (fun σ => passAt takes0 σ) (pa_cons (pv 0) (pa_cons (pv 1) pa_nil))) (pe_un un_neg pe_int) (nomark _))))), ?_⟩
  refine st0 [some v, some u] rfl ?_
  walk_at "go"
  refine use_is r g h40 fun H1 s1 => ?_
  walk_at "go"
  cases ef : j.fault.isNone with
  | false =>
    refine iteT ?_
    walk_at "go"
    have e : isOrd j d = false := by
      cases d <;> simp only [isOrd, ef, Bool.false_and]
    rw [e] at q
    exact q _ s1
  | true =>
    refine iteF ?_
    walk_at "go"
    refine u_isi (d := d) (.inr (.inr (.inl rfl))) (rd.mono (Ext.of_same s1) _ _) ?_
    cases rd with
    | tup hO hD =>
      refine ⟨true, rfl, ?_⟩
      refine iteF ?_
      walk_at "go"
      refine use_of (r.mono (Ext.of_same s1) _ _) g.ok h40 (g.walk h40) (Ext.of_same s1 _ _ hO) (hD.mono (Ext.of_same s1) _ _) (h1000 _ rfl) fun H2 s2 => ?_
      walk_at "go"
      simp only [isOrd, ef, Bool.true_and] at q
      exact q _ (s1.trans s2)
    | int i =>
      refine ⟨false, rfl, ?_⟩
      refine iteT ?_
      walk_at "go"
      exact q _ s1
    | non =>
      refine ⟨false, rfl, ?_⟩
      refine iteT ?_
      walk_at "go"
      exact q _ s1
    | bl b =>
      refine ⟨false, rfl, ?_⟩
      refine iteT ?_
      walk_at "go"
      exact q _ s1
    | str z =>
      refine ⟨false, rfl, ?_⟩
      refine iteT ?_
      walk_at "go"
      exact q _ s1
end
end Mine

/-! ### JA -/
set_option maxHeartbeats 400000
namespace Mine
open PySem PySem.Spec L2
/-! ## the order from the left -/
mutual
def Jn.post : Jn → Nat → List Nat
  | .mk _ _ parts, n => Jn.posts parts (n + 1) ++ [n]
def Jn.posts : List Jn → Nat → List Nat
  | [], _ => []
  | j :: r, n => Jn.post j n ++ Jn.posts r (n + j.cnt)
end
/-- parts beside their numbers -/
def zt : List Jn → Nat → List (Jn × Nat)
  | [], _ => []
  | j :: r, n => (j, n) :: zt r (n + j.cnt)
theorem zt_tops : ∀ (l : List Jn) (n : Nat), (zt l n).map (·.2) = tops n l
  | [], n => rfl
  | j :: r, n => by simp only [zt, List.map_cons, tops, zt_tops r]
theorem posts_zt : ∀ (l : List Jn) (n : Nat), Jn.posts l n = (zt l n).flatMap fun p => Jn.post p.1 p.2
  | [], n => by simp only [Jn.posts, zt, List.flatMap_nil]
  | j :: r, n => by simp only [Jn.posts, zt, List.flatMap_cons, posts_zt r]
def outS (st : List (Jn × Nat)) : List Nat := st.flatMap fun p => (Jn.post p.1 p.2).reverse
theorem outS_step {op : Str} {td : List PyData} {parts : List Jn} {n : Nat} {r : List (Jn × Nat)} : outS ((.mk op td parts, n) :: r) = n :: outS ((zt parts (n + 1)).reverse ++ r) := by
  unfold outS
  rw [List.flatMap_cons, List.flatMap_append]
  simp only [Jn.post, List.reverse_append, List.reverse_cons, List.reverse_nil, List.nil_append, List.cons_append]
  rw [posts_zt, List.reverse_flatMap]
  rfl
def cntS (st : List (Jn × Nat)) : Nat := Jn.cnts (st.map (·.1))
theorem zt_jns : ∀ (l : List Jn) (n : Nat), (zt l n).map (·.1) = l
  | [], n => rfl
  | j :: r, n => by simp only [zt, List.map_cons, zt_jns r]
theorem cnts_reverse : ∀ l : List Jn, Jn.cnts l.reverse = Jn.cnts l
  | [] => rfl
  | j :: r => by
    rw [List.reverse_cons, cnts_append, cnts_reverse r]
    simp only [Jn.cnts]
    omega
theorem cntS_step {op : Str} {td : List PyData} {parts : List Jn} {n : Nat} {r : List (Jn × Nat)} : cntS ((.mk op td parts, n) :: r) = 1 + cntS ((zt parts (n + 1)).reverse ++ r) := by
  unfold cntS
  rw [List.map_append, List.map_reverse, zt_jns, cnts_append, cnts_reverse]
  simp only [List.map_cons, Jn.cnts, Jn.cnt]
  omega
/-- each stands at its number -/
def AtS (j : Jn) (st : List (Jn × Nat)) : Prop := ∀ p ∈ st, j.all[p.2]? = some p.1
theorem zt_get : ∀ {l : List Jn} {n : Nat} {p : Jn × Nat}, p ∈ zt l n → ∃ i : Nat, l[i]? = some p.1 ∧ (tops n l)[i]? = some p.2
  | [], n, p, h => by simp [zt] at h
  | j :: r, n, p, h => by
    simp only [zt, List.mem_cons] at h
    rcases h with rfl | h
    · exact ⟨0, rfl, rfl⟩
    · obtain ⟨i, h1, h2⟩ := zt_get h
      exact ⟨i + 1, by simpa using h1, by simpa only [tops, List.getElem?_cons_succ] using h2⟩
theorem AtS.step {j : Jn} {op : Str} {td : List PyData} {parts : List Jn} {n : Nat} {r : List (Jn × Nat)} (h : AtS j ((.mk op td parts, n) :: r)) : AtS j ((zt parts (n + 1)).reverse ++ r) := by
  intro p hp
  rcases List.mem_append.mp hp with hp | hp
  · obtain ⟨i, h1, h2⟩ := zt_get (List.mem_reverse.mp hp)
    obtain ⟨t, t1, t2, t3, t4⟩ := part_at (h _ List.mem_cons_self) h1
    rw [h2, Option.some.injEq] at t1
    rw [t1]
    exact t4
  · exact h p (List.mem_cons_of_mem _ hp)
theorem post_len : ∀ (j : Jn) (n : Nat), (Jn.post j n).length = j.cnt := by
  intro j
  exact Jn.rec (motive_1 := fun j => ∀ n, (Jn.post j n).length = j.cnt) (motive_2 := fun l => ∀ n, (Jn.posts l n).length = Jn.cnts l)
    (fun op td parts ih n => by simp only [Jn.post, List.length_append, ih, Jn.cnt, List.length_cons, List.length_nil]; omega)
    (fun n => by simp only [Jn.posts, Jn.cnts, List.length_nil])
    (fun j r h1 h2 n => by simp only [Jn.posts, Jn.cnts, List.length_append, h1, h2]) j
end Mine

/-! ### J6 -/
namespace Mine
open PySem PySem.Spec L2
local macro_rules | `(tactic| walk_at "st") => `(tactic| first
  | ((with_reducible apply rd_var); exact rfl)
  | (with_reducible apply rd_c)
  | (with_reducible apply rd_seq)
  | (with_reducible apply rd_asg)
  | (with_reducible apply rd_gname)
  | (with_reducible apply rd_op)
  | (with_reducible apply rd_cb)
  | (with_reducible apply rd_cons)
  | (with_reducible apply rd_nil)
  | (with_reducible apply rd_if)
  | (with_reducible apply rd_test)
  | (with_reducible apply rd_bl)
  | (with_reducible apply rd_retE)
  | (with_reducible apply rd_ret)
  | (with_reducible apply rd_call)
  | (with_reducible apply rd_tup)
  | (with_reducible apply rd_lst)
  | (with_reducible apply rd_drop)
  | (with_reducible apply rd_next)
  | (with_reducible apply rd_ife)
  | (with_reducible apply rd_gsub)
  | (with_reducible apply rd_par)
  | (with_reducible apply rd_par_end)
  | (with_reducible apply rd_un)
  | (with_reducible apply rd_and)
  | (with_reducible apply rd_or)
  | (with_reducible apply rd_not)
  | (with_reducible apply rd_andV)
  | (with_reducible apply rd_orV)
  | (with_reducible apply rd_notV)
  | (with_reducible apply rd_chain)
  | (with_reducible apply rd_tB)
  | (with_reducible apply rd_brk)
  | (with_reducible apply rd_ct)
  | (with_reducible apply u_add)
  | (with_reducible apply u_sub)
  | (with_reducible apply u_lt)
  | (with_reducible apply u_le)
  | (with_reducible apply u_gt)
  | (with_reducible apply u_ge)
  | (with_reducible apply u_eqI)
  | (with_reducible apply u_eqS)
  | (with_reducible apply u_neI)
  | (with_reducible apply u_int)
  | (with_reducible apply u_intB)
  | (with_reducible apply u_max)
  | (with_reducible apply u_min)
  | (with_reducible apply u_neg)
  | ((with_reducible apply u_mod); focus first | assumption | decide | omega)
  | ((with_reducible apply u_div); focus first | decide | omega | (constructor <;> first | assumption | omega))
  | ((with_reducible apply u_mul); focus first | exact Or.inl (by omega) | exact Or.inr (by omega) | exact Or.inl (by decide) | exact Or.inr (by decide))
  | ((with_reducible apply u_ixL); (focus (first | assumption | exact SqL.of (by assumption) | exact SqL.of upd_same)); exact rfl)
  | ((with_reducible apply u_lenL); focus (first | assumption | exact SqL.of (by assumption) | exact SqL.of upd_same))
  | ((with_reducible apply u_lenT); focus (first | assumption | exact SqT.of (by assumption) | exact SqT.of upd_same))
  | ((with_reducible apply u_setL); (focus (first | assumption | exact upd_same)); exact rfl)
  | (with_reducible apply rd_chain3)
  | (with_reducible apply rd_tru)
  | (with_reducible apply rd_truB)
  | ((with_reducible apply rd_truL); focus (first | assumption | exact SqL.of (by assumption) | exact SqL.of upd_same))
  | (with_reducible apply rd_bm)
  | (with_reducible apply rd_bm0)
  | ((with_reducible apply rd_tyL); focus (first | exact SqL.of (by assumption) | exact SqL.of upd_same))
  | (with_reducible apply u_min3)
  | (with_reducible apply rd_rev)
  | (with_reducible apply rd_iList)
  | (with_reducible apply rd_iTup)
  | (with_reducible apply rd_for)
  | (with_reducible apply rd_rng1)
  | (with_reducible apply rd_rng2)
  | ((with_reducible apply rd_rng1e); (focus omega); (focus omega))
  | ((with_reducible apply rd_rng2e); (focus omega))
  | (with_reducible apply rd_gcons)
  | (with_reducible apply rd_gnil)
  | (with_reducible apply rd_retN)
  | (with_reducible apply g_eqI)
  | (with_reducible apply g_eqS)
  | (with_reducible apply g_neI)
  | (with_reducible apply g_neS)
  | (with_reducible apply g_neB)
  | (with_reducible apply rd_xf)
  | (with_reducible apply rd_raiseE)
  | (with_reducible apply rd_callS)
  | (with_reducible apply u_inD)
  | (with_reducible apply u_notInD)
  | (with_reducible apply u_inS)
  | (with_reducible apply u_notInS)
  | (with_reducible apply rd_iSeq)
  | ((with_reducible apply rd_seqL); (focus first | assumption | exact SqL.of (by assumption) | exact SqL.of upd_same))
  | ((with_reducible apply rd_seqT); (focus first | assumption | exact SqT.of (by assumption) | exact SqT.of upd_same))
  | (with_reducible apply rd_istr)
  | (with_reducible apply rd_istrE)
  | ((with_reducible apply u_isi); (focus (first | exact Or.inl rfl | exact Or.inr (Or.inl rfl) | exact Or.inr (Or.inr (Or.inl rfl)) | exact Or.inr (Or.inr (Or.inr rfl)))); (focus first | assumption | exact Rp.int _ | exact Rp.str _))
  | ((with_reducible apply rd_itL); (focus first | assumption | exact SqL.of (by assumption) | exact SqL.of upd_same))
  | ((with_reducible apply rd_itT); (focus first | assumption | exact SqT.of (by assumption) | exact SqT.of upd_same))
  | (with_reducible apply rd_lc)
  | (with_reducible apply rd_yes)
  | ((with_reducible apply u_pow); (focus (exact ⟨by decide, by decide, by decide⟩)))
  | (with_reducible apply u_mul; focus exact Or.inr cm)
  | (with_reducible apply rd_par3)
  | (with_reducible apply rd_par3_end)
  | ((with_reducible apply rd_aug); exact rfl)
  | (with_reducible apply rd_ipI)
  | (with_reducible apply rd_enA)
  | (with_reducible apply rd_revR)
  | (with_reducible apply rd_rg1)
  | (with_reducible apply rd_rng3)
  | ((with_reducible apply u_enT); (focus first | assumption | exact SqT.of (by assumption) | exact SqT.of upd_same))
  | ((with_reducible apply u_enL); (focus first | assumption | exact SqL.of (by assumption) | exact SqL.of upd_same))
  | (with_reducible apply rd_zip)
  | (with_reducible apply rd_lc2)
  | ((with_reducible apply rd_gtup); (focus first | assumption | exact SqT.of (by assumption) | exact SqT.of upd_same); (focus rfl))
  | (with_reducible apply rd_dnew)
  | (with_reducible apply rd_din)
  | (with_reducible apply rd_dget)
  | (with_reducible apply rd_dput)
  | (with_reducible apply rd_disp1)
  | (with_reducible apply rd_sl)
  | (with_reducible apply rd_part)
  | (with_reducible apply rd_partI)
  | (with_reducible apply rd_nopart)
  | (with_reducible apply u_isB)
  | (with_reducible apply u_repB)
  | (with_reducible apply u_notB)
  | (with_reducible apply rd_dc)
  | (with_reducible apply rd_bmT)
  | (with_reducible apply rd_tupF)
  | ((with_reducible apply rd_tyF); (focus assumption))
  | (with_reducible apply iteT)
  | (with_reducible apply iteF))
local macro_rules | `(tactic| walk_at "go") => `(tactic| repeat (walk_at "st"))
local macro_rules | `(tactic| walk_at "sp") => `(tactic| (first | refine rd_split (fun c => ?_) (fun c => ?_) | refine rd_splitN (fun c => ?_) (fun c => ?_) | refine rd_splitB (fun c => ?_) (fun c => ?_)))
local macro_rules | `(tactic| walk_at "nx") => `(tactic| repeat (first | (with_reducible apply iteF) | (with_reducible apply iteT) | (with_reducible apply rd_next)))

section
variable {P : Program} {w : World} {K : PySem.W.Frag} {mg : Str → Option Value} {base : Heap}
theorem nV_app (a b : List Nat) : nV (a ++ b) = nV a ++ nV b := by unfold nV; rw [List.map_append]
def spFo (K : PySem.W.Frag) : Sp := fun vs H Q _ => ∃ (v : V) (j : Jn), vs = [v] ∧ Rp K H v j.py ∧ j.ok ∧ j.cnt ≤ 40 ∧ walk 42 [j.py] 0 = none ∧ ∀ (H' : Hp) (p : Addr), Same H H' → HE.FT H' p (nV (Jn.post j 0)) → Q (.ref p) H'
theorem use_fo {K : PySem.W.Frag} {v : V} {j : Jn} {H : Hp} {Q : VK} {E : XK} (r : Rp K H v j.py) (h : j.ok) (h1 : j.cnt ≤ 40) (h2 : walk 42 [j.py] 0 = none) (q : ∀ (H' : Hp) (p : Addr), Same H H' → HE.FT H' p (nV (Jn.post j 0)) → Q (.ref p) H') : spFo K [v] H Q E := ⟨v, j, rfl, r, h, h1, h2, q⟩
abbrev s_first_order : Stmt := top 54
theorem sc_first_order : FnScope ["program", "parts", "found", "waiting", "number"] ["program"] (defScope s_first_order) := ⟨rfl, rfl, rfl, by decide +kernel, rfl, by decide +kernel, by decide +kernel⟩
theorem has_first_order (O : OwnF K mg "first_order" s_first_order) (B : Bl mg) (h_part_numbers : HasF P w K mg base (L2.CX P w) 10 "part_numbers" ["program"] (spPn K)) : HasF P w K mg base (L2.CX P w) 11 "first_order" ["program"] (spFo K) := by
  refine hasX O sc_first_order (fun _ _ _ _ _ _ us hl => match us, hl with | [_], _ => rfl) (fun vs H Q E h => ?_) (fun f cdv A outer s_ H vs Q E hr h => ?_)
  · obtain ⟨v, j, rfl, _⟩ := h
    rfl
  obtain ⟨v, j, rfl, r, hok, h40, hwk, q⟩ := h
  refine ⟨_, (pss_cons (ps_set (i := 1) sc_first_order.nd rfl (by first | exact Or.inl rfl | exact Or.inr rfl) (pe_callHS h_part_numbers (hr.mono (by first | decide | omega)) (by rfl) (fun σ => passAt tkX σ) (pa_cons (pv 0) pa_nil))) (pss_cons (ps_set (i := 2) sc_first_order.nd rfl (by first | exact Or.inl rfl | exact Or.inr rfl) (pe_lst pa_nil)) (pss_cons (ps_set (i := 3) sc_first_order.nd rfl (by first | exact Or.inl rfl | exact Or.inr rfl) (pe_lst (pa_cons pe_int pa_nil))) (pss_cons (ps_while poX (pt_truthK K (pv 3) (by intro _; rfl)) (pss_cons (ps_set (i := 4) sc_first_order.nd rfl (by first | exact Or.inl rfl | exact Or.inr rfl) (pe_bm0K K PySem.F.plainAttrs_list PySem.F.slot_list_pop PySem.F.type_list_pop mt_pop (pv 3))) (pss_cons (ps_expr (pe_bmK K PySem.F.plainAttrs_list PySem.F.slot_list_append PySem.F.type_list_append mt_append (pv 2) (pa_cons (pv 4) pa_nil))) (pss_one (ps_expr (pe_bmK K PySem.F.plainAttrs_list PySem.F.slot_list_extend PySem.F.type_list_extend (kExt K) (pv 3) (pa_cons (pe_ix (kIx K) (pv 1) (pv 4) (fun _ _ => rfl)) pa_nil))))))) (pss_one (ps_ret (pe_callTy (kTupF K) (by rfl) B.tuple (by decide +kernel) (pa_cons (pe_revK K (pv 2)) pa_nil)))))))), ?_⟩
  refine st0 [some v, none, none, none, none] rfl ?_
  walk_at "go"
  refine use_pn r hok h40 hwk fun H1 pp rows s1 hP lP hrows => ?_
  walk_at "go"
  refine ⟨lk rfl, fun f hf => ?_⟩
  walk_at "go"
  refine ⟨lk rfl, fun a ha => ?_⟩
  have ef1 : (upd H1 f (.lst [])) f = some (.lst []) := upd_same
  have nfa : f ≠ a := ne_of_none ef1 ha
  have hHa : H1 a = none := by
    cases hh : H1 a with
    | none => rfl
    | some o => rw [same_new hf (.lst []) _ _ hh] at ha; cases ha
  walk_at "go"
  refine rd_while (fun m σ H' => ∃ (dn : List Nat) (st : List (Jn × Nat)) (o : Option V), σ = [some v, some (.ref pp), some (.ref f), some (.ref a), o] ∧ Same H1 H' ∧ H' f = some (.lst (nV dn)) ∧ H' a = some (.lst (nV (st.map (·.2)).reverse)) ∧ AtS j st ∧ dn ++ outS st = (Jn.post j 0).reverse ∧ m = cntS st ∧ cntS st ≤ 40) j.cnt
    ⟨[], [(j, 0)], none, rfl, Same.new (same_new hf _) ha, by rw [upd_ne nfa]; exact ef1, upd_same, ?_, by simp [outS], by simp [cntS, Jn.cnts], by simp [cntS, Jn.cnts]; exact h40⟩ ?_
  · intro p hp
    obtain rfl : p = (j, 0) := by simpa using hp
    obtain ⟨op, td, parts⟩ := j
    simp only [Jn.all, List.getElem?_cons_zero]
  rintro m σ H' ⟨dn, st, o, rfl, s', ef, ea, hat, hd, rfl, hc⟩
  walk_at "go"
  match st, ea, hat, hd, hc with
  | [], ea, hat, hd, hc =>
    refine iteF ?_
    walk_at "go"
    refine rd_revL (SqL.of ef) ?_
    intro p hp
    walk_at "go"
    refine u_tupF (SqL.of upd_same) fun p2 H2 s2 hp2 => ?_
    have e : (nV dn).reverse = nV (Jn.post j 0) := by
      have h1 : dn = (Jn.post j 0).reverse := by simpa [outS] using hd
      unfold nV
      rw [h1, List.map_reverse, List.reverse_reverse]
    rw [e] at hp2
    exact q _ p2 ((Same.new (s1.trans s') hp).trans s2) hp2
  | (.mk op td parts, n) :: r0, ea, hat, hd, hc =>
    have hn : j.all[n]? = some (.mk op td parts) := hat _ List.mem_cons_self
    have nl := lt_of_get hn
    rw [all_cnt] at nl
    obtain ⟨rk, hrk, hrk2⟩ := hrows n nl
    rw [kinN_tops hn] at hrk2
    have exs : nV ((((Jn.mk op td parts, n) :: r0).map (·.2)).reverse) = nV ((r0.map (·.2)).reverse) ++ [V.int (n : Int)] := by
      unfold nV
      simp
    rw [exs] at ea
    have hne : (!(nV ((r0.map (·.2)).reverse) ++ [V.int (n : Int)]).isEmpty) = true := by simp
    have hc2 := hc
    rw [cntS_step] at hc2
    have ld : dn.length ≤ 40 := by
      have := congrArg List.length hd
      rw [List.length_append, List.length_reverse, post_len] at this
      omega
    have hgt : ∀ st : List (Jn × Nat), st.length ≤ cntS st := by
      intro st
      induction st with
      | nil => simp
      | cons x t ih =>
        have := cnt_pos x.1
        have e : cntS (x :: t) = x.1.cnt + cntS t := by simp [cntS, Jn.cnts]
        rw [e, List.length_cons]
        omega
    have hl2 := hgt ((zt parts (n + 1)).reverse ++ r0)
    rw [List.length_append, List.length_reverse] at hl2
    have lz : (zt parts (n + 1)).length = parts.length := by rw [← List.length_map (f := (·.1)), zt_jns]
    rw [exs, hne]
    refine iteT ⟨fun σ' H' => ∃ m', m' < cntS ((.mk op td parts, n) :: r0) ∧ _, fun _ _ h => h, ?_⟩
    walk_at "go"
    have et : (nV ((r0.map (·.2)).reverse) ++ [V.int (n : Int)])[(nV ((r0.map (·.2)).reverse) ++ [V.int (n : Int)]).length - 1]? = some (V.int (n : Int)) := by
      generalize nV ((r0.map (·.2)).reverse) = l
      simp
    refine u_pop ea et ?_
    rw [List.dropLast_concat]
    have s2 : Same H1 (upd H' a (.lst (nV ((r0.map (·.2)).reverse)))) := Same.upd_new s' hHa
    have ef2 : (upd H' a (.lst (nV ((r0.map (·.2)).reverse)))) f = some (.lst (nV dn)) := by rw [upd_ne nfa]; exact ef
    have ea2 : (upd H' a (.lst (nV ((r0.map (·.2)).reverse)))) a = some (.lst (nV ((r0.map (·.2)).reverse))) := upd_same
    generalize upd H' a (.lst (nV ((r0.map (·.2)).reverse))) = H2 at *
    walk_at "go"
    refine u_app ef2 (by unfold nV; rw [List.length_map]; exact ls (by omega)) ?_
    have s3 : Same H1 (upd H2 f (.lst (nV dn ++ [.int (n : Int)]))) := Same.upd_new s2 hf
    have ea3 : (upd H2 f (.lst (nV dn ++ [.int (n : Int)]))) a = some (.lst (nV ((r0.map (·.2)).reverse))) := by rw [upd_ne nfa.symm]; exact ea2
    have ef3 : (upd H2 f (.lst (nV dn ++ [.int (n : Int)]))) f = some (.lst (nV dn ++ [.int (n : Int)])) := upd_same
    generalize upd H2 f (.lst (nV dn ++ [.int (n : Int)])) = H3 at *
    walk_at "go"
    refine u_ixT (Ext.of_same s3 _ _ hP) (atI_nat hrk) ?_
    walk_at "go"
    refine u_extT ea3 (Ext.of_same s3 _ _ hrk2) ?_ ?_
    · unfold nV
      rw [List.length_map, List.length_map, List.length_reverse, List.length_map, tops_len]
      exact ll (by omega)
    walk_at "go"
    refine ⟨_, ?_, dn ++ [n], (zt parts (n + 1)).reverse ++ r0, _, rfl, Same.upd_new s3 hHa, by rw [upd_ne nfa, nV_app]; exact ef3, ?_, hat.step, ?_, rfl, by omega⟩
    · rw [cntS_step]
      omega
    · rw [upd_same]
      congr 2
      rw [← nV_app]
      congr 1
      rw [List.map_append, List.map_reverse, zt_tops, List.reverse_append, List.reverse_reverse]
    · rw [← hd, outS_step]
      simp
end
end Mine

/-! ### J1 -/
set_option maxHeartbeats 400000
namespace Mine
open PySem PySem.Spec L2
/-! ## how great a size may be -/
mutual
theorem cnt_sub : ∀ j : Jn, ∀ y ∈ j.all, y.cnt ≤ j.cnt
  | .mk op td parts, y, hy => by
    simp only [Jn.all, List.mem_cons] at hy
    rcases hy with rfl | hy
    · exact Nat.le_refl _
    · have := cnts_sub parts y hy
      simp only [Jn.cnt]
      omega
theorem cnts_sub : ∀ l : List Jn, ∀ y ∈ Jn.alls l, y.cnt ≤ Jn.cnts l
  | [], y, hy => by simp [Jn.alls] at hy
  | j :: r, y, hy => by
    simp only [Jn.alls, List.mem_append] at hy
    simp only [Jn.cnts]
    rcases hy with hy | hy
    · have := cnt_sub j y hy
      omega
    · have := cnts_sub r y hy
      omega
end
def Bw (n : Nat) : Int := 64 ^ n
theorem Bw_pos (n : Nat) : 1 ≤ Bw n := by
  unfold Bw
  have : 0 < (64 : Int) ^ n := Int.pow_pos (by decide)
  omega
theorem Bw_add (a b : Nat) : Bw (a + b) = Bw a * Bw b := by
  unfold Bw
  exact Int.pow_add 64 a b
theorem Bw_one (b : Nat) : Bw (1 + b) = 64 * Bw b := by
  rw [Bw_add]
  rfl
theorem Bw_mono {a b : Nat} (h : a ≤ b) : Bw a ≤ Bw b := by
  obtain ⟨c, rfl⟩ := Nat.exists_eq_add_of_le h
  rw [Bw_add]
  have h1 := Bw_pos a
  have h2 := Bw_pos c
  have := Int.mul_le_mul_of_nonneg_left h2 (show 0 ≤ Bw a by omega)
  omega
theorem sum_le {B : Int} : ∀ {ps : List Int}, (∀ p ∈ ps, p ≤ B) → ps.sum ≤ ps.length * B
  | [], _ => by simp
  | a :: r, h => by
    have h1 := h a List.mem_cons_self
    have h2 := sum_le (ps := r) fun p hp => h p (List.mem_cons_of_mem _ hp)
    rw [List.sum_cons, List.length_cons, Int.natCast_add, Int.add_mul]
    omega
theorem parts_four {n : Nat} (h : partsFit "cat" n = true) : n ≤ 4 := by
  have e : partsFit "cat" n = (decide (1 ≤ (n : Int)) && decide ((n : Int) ≤ 4)) := rfl
  rw [e] at h
  simp only [Bool.and_eq_true, decide_eq_true_eq] at h
  omega
theorem wds_le : ∀ {l : List Jn}, (∀ y ∈ l, y.wd ≤ Bw y.cnt) → ∀ p ∈ Jn.wds l, p ≤ Bw (Jn.cnts l)
  | [], _, p, hp => by simp [Jn.wds] at hp
  | j :: r, h, p, hp => by
    simp only [Jn.wds, List.mem_cons] at hp
    simp only [Jn.cnts]
    rcases hp with rfl | hp
    · exact Int.le_trans (h j List.mem_cons_self) (Bw_mono (by omega))
    · exact Int.le_trans (wds_le (l := r) (fun y hy => h y (List.mem_cons_of_mem _ hy)) p hp) (Bw_mono (by omega))
theorem sz_le {op : Str} {td : List PyData} {parts : List Jn} (h : Fit (.mk op td parts)) (hp : ∀ p ∈ Jn.wds parts, 1 ≤ p) (hw : ∀ y ∈ parts, y.wd ≤ Bw y.cnt) : (Jn.mk op td parts).wd ≤ Bw (Jn.mk op td parts).cnt := by
  have hl : (Jn.wds parts).length = parts.length := by rw [wds_map, List.length_map]
  have hle := wds_le hw
  have hB := Bw_pos (Jn.cnts parts)
  simp only [Jn.cnt, Jn.wd]
  rw [Bw_one]
  obtain ⟨h1, h2⟩ := h
  unfold szOf
  by_cases c : op = "row"
  · subst c
    rw [if_pos rfl]
    rw [fits_row] at h1
    unfold tellsRow at h1
    simp only [Bool.and_eq_true, decide_eq_true_eq] at h1
    have h12 := h1.1.2
    show (td.length : Int) ≤ _
    omega
  rw [if_neg c]
  by_cases c1 : op = "in"
  · subst c1
    obtain ⟨z, k, rfl, k1, k2⟩ := told_in h1
    rw [if_pos rfl]
    show k ≤ _
    omega
  rw [if_neg c1]
  split
  · show (1 : Int) ≤ _
    omega
  split
  · rename_i c3
    subst c3
    have h4 := parts_four h2
    have hs := sum_le hle
    show (Jn.wds parts).sum ≤ _
    rw [hl] at hs
    have : (parts.length : Int) * Bw (Jn.cnts parts) ≤ 4 * Bw (Jn.cnts parts) := Int.mul_le_mul_of_nonneg_right (by omega) (by omega)
    omega
  split
  · rename_i c4
    subst c4
    rw [← hl] at h2
    have h22 := parts_two h2 (by decide +kernel)
    rw [hl] at h22
    match parts, h22, hw, hp, hB with
    | [a, b], _, hw, hp, hB =>
      have ha := hw a (by simp)
      have hb := hw b (by simp)
      have pa := hp a.wd (by simp [Jn.wds])
      have pb := hp b.wd (by simp [Jn.wds])
      have e : Jn.cnts [a, b] = a.cnt + b.cnt := by simp [Jn.cnts]
      rw [e] at hB ⊢
      simp only [Jn.wds]
      show a.wd * b.wd ≤ _
      have : a.wd * b.wd ≤ Bw a.cnt * Bw b.cnt := Int.mul_le_mul ha hb (by omega) (by have := Bw_pos a.cnt; omega)
      rw [← Bw_add] at this
      omega
  split
  · rename_i c5
    subst c5
    rw [← hl] at h2
    obtain ⟨a, b, e⟩ := two_of (parts_two h2 (by decide +kernel))
    rw [e] at hle ⊢
    have := hle a (by simp)
    have := hle b (by simp)
    show a + b - 1 ≤ _
    omega
  split
  · rename_i c6
    subst c6
    obtain ⟨i, k, rfl, k1, k2, k3⟩ := told_part h1
    show k - i ≤ _
    omega
  split
  · rename_i c7
    subst c7
    obtain ⟨t, rfl, k1, k2⟩ := told_rep h1
    rw [← hl] at h2
    obtain ⟨a, e⟩ := one_of (parts_one h2 (by decide +kernel))
    rw [e] at hle hp ⊢
    have ha := hle a (by simp)
    have pa := hp a (by simp)
    show t * a ≤ _
    have : t * a ≤ 16 * Bw (Jn.cnts parts) := Int.mul_le_mul k2 ha (by omega) (by omega)
    omega
  · cases e : Jn.wds parts with
    | nil =>
      show (0 : Int) ≤ _
      omega
    | cons a r =>
      rw [e] at hle
      have := hle a (by simp)
      show a ≤ _
      omega
mutual
theorem wd_le : ∀ j : Jn, (∀ x ∈ j.all, Fit x) → j.wd ≤ Bw j.cnt
  | .mk op td parts, h => sz_le (h _ (all_self _)) (wds_pos parts fun x hx => h x (by simp only [Jn.all]; exact List.mem_cons_of_mem _ hx)) (wds_le' parts fun x hx => h x (by simp only [Jn.all]; exact List.mem_cons_of_mem _ hx))
theorem wds_le' : ∀ l : List Jn, (∀ x ∈ Jn.alls l, Fit x) → ∀ y ∈ l, y.wd ≤ Bw y.cnt
  | [], _, y, hy => by simp at hy
  | j :: r, h, y, hy => by
    have a := wd_le j fun x hx => h x (by simp only [Jn.alls]; exact List.mem_append_left _ hx)
    have b := wds_le' r fun x hx => h x (by simp only [Jn.alls]; exact List.mem_append_right _ hx)
    rcases List.mem_cons.mp hy with rfl | hy
    · exact a
    · exact b y hy
end
theorem Fx.small {j y : Jn} (h : Fx j) (h40 : j.cnt ≤ 40) (hy : y ∈ j.all) : 1 ≤ y.wd ∧ y.wd < 2 ^ 300 := by
  have hx := h.sub hy
  refine ⟨hx.pos, ?_⟩
  have h1 := wd_le y hx.fit
  have h2 := cnt_sub j y hy
  have h3 : Bw y.cnt ≤ Bw 40 := Bw_mono (by omega)
  have h4 : Bw 40 < 2 ^ 300 := by decide +kernel
  omega
/-- the parts' sizes are small, too -/
theorem Fx.smalls {j : Jn} (h : Fx j) (h40 : j.cnt ≤ 40) {x : Nat} {op : Str} {td : List PyData} {parts : List Jn} (hx : j.all[x]? = some (.mk op td parts)) : ∀ p ∈ Jn.wds parts, 1 ≤ p ∧ p < 2 ^ 300 := by
  intro p hp
  rw [wds_map, List.mem_map] at hp
  obtain ⟨y, hy, rfl⟩ := hp
  have hm := List.mem_of_getElem? hx
  refine h.small h40 (all_sub j _ hm y ?_)
  simp only [Jn.all]
  refine List.mem_cons_of_mem _ ?_
  obtain ⟨a, b, rfl⟩ := List.append_of_mem hy
  rw [alls_append]
  simp only [Jn.alls]
  exact List.mem_append_right _ (List.mem_append_left _ (all_self y))
end Mine

/-! ### J7 -/
namespace Mine
open PySem PySem.Spec L2
local macro_rules | `(tactic| walk_at "st") => `(tactic| first
  | ((with_reducible apply rd_var); exact rfl)
  | (with_reducible apply rd_c)
  | (with_reducible apply rd_seq)
  | (with_reducible apply rd_asg)
  | (with_reducible apply rd_gname)
  | (with_reducible apply rd_op)
  | (with_reducible apply rd_cb)
  | (with_reducible apply rd_cons)
  | (with_reducible apply rd_nil)
  | (with_reducible apply rd_if)
  | (with_reducible apply rd_test)
  | (with_reducible apply rd_bl)
  | (with_reducible apply rd_retE)
  | (with_reducible apply rd_ret)
  | (with_reducible apply rd_call)
  | (with_reducible apply rd_tup)
  | (with_reducible apply rd_lst)
  | (with_reducible apply rd_drop)
  | (with_reducible apply rd_next)
  | (with_reducible apply rd_ife)
  | (with_reducible apply rd_gsub)
  | (with_reducible apply rd_par)
  | (with_reducible apply rd_par_end)
  | (with_reducible apply rd_un)
  | (with_reducible apply rd_and)
  | (with_reducible apply rd_or)
  | (with_reducible apply rd_not)
  | (with_reducible apply rd_andV)
  | (with_reducible apply rd_orV)
  | (with_reducible apply rd_notV)
  | (with_reducible apply rd_chain)
  | (with_reducible apply rd_tB)
  | (with_reducible apply rd_brk)
  | (with_reducible apply rd_ct)
  | (with_reducible apply u_add)
  | (with_reducible apply u_sub)
  | (with_reducible apply u_lt)
  | (with_reducible apply u_le)
  | (with_reducible apply u_gt)
  | (with_reducible apply u_ge)
  | (with_reducible apply u_eqI)
  | (with_reducible apply u_eqS)
  | (with_reducible apply u_neI)
  | (with_reducible apply u_int)
  | (with_reducible apply u_intB)
  | (with_reducible apply u_max)
  | (with_reducible apply u_min)
  | (with_reducible apply u_neg)
  | ((with_reducible apply u_mod); focus first | assumption | decide | omega)
  | ((with_reducible apply u_div); focus first | decide | omega | (constructor <;> first | assumption | omega))
  | ((with_reducible apply u_mul); focus first | exact Or.inl (by omega) | exact Or.inr (by omega) | exact Or.inl (by decide) | exact Or.inr (by decide))
  | ((with_reducible apply u_ixL); (focus (first | assumption | exact SqL.of (by assumption) | exact SqL.of upd_same)); exact rfl)
  | ((with_reducible apply u_lenL); focus (first | assumption | exact SqL.of (by assumption) | exact SqL.of upd_same))
  | ((with_reducible apply u_lenT); focus (first | assumption | exact SqT.of (by assumption) | exact SqT.of upd_same))
  | ((with_reducible apply u_setL); (focus (first | assumption | exact upd_same)); exact rfl)
  | (with_reducible apply rd_chain3)
  | (with_reducible apply rd_tru)
  | (with_reducible apply rd_truB)
  | ((with_reducible apply rd_truL); focus (first | assumption | exact SqL.of (by assumption) | exact SqL.of upd_same))
  | (with_reducible apply rd_bm)
  | (with_reducible apply rd_bm0)
  | ((with_reducible apply rd_tyL); focus (first | exact SqL.of (by assumption) | exact SqL.of upd_same))
  | (with_reducible apply u_min3)
  | (with_reducible apply rd_rev)
  | (with_reducible apply rd_iList)
  | (with_reducible apply rd_iTup)
  | (with_reducible apply rd_for)
  | (with_reducible apply rd_rng1)
  | (with_reducible apply rd_rng2)
  | ((with_reducible apply rd_rng1e); (focus omega); (focus omega))
  | ((with_reducible apply rd_rng2e); (focus omega))
  | (with_reducible apply rd_gcons)
  | (with_reducible apply rd_gnil)
  | (with_reducible apply rd_retN)
  | (with_reducible apply g_eqI)
  | (with_reducible apply g_eqS)
  | (with_reducible apply g_neI)
  | (with_reducible apply g_neS)
  | (with_reducible apply g_neB)
  | (with_reducible apply rd_xf)
  | (with_reducible apply rd_raiseE)
  | (with_reducible apply rd_callS)
  | (with_reducible apply u_inD)
  | (with_reducible apply u_notInD)
  | (with_reducible apply u_inS)
  | (with_reducible apply u_notInS)
  | (with_reducible apply rd_iSeq)
  | ((with_reducible apply rd_seqL); (focus first | assumption | exact SqL.of (by assumption) | exact SqL.of upd_same))
  | ((with_reducible apply rd_seqT); (focus first | assumption | exact SqT.of (by assumption) | exact SqT.of upd_same))
  | (with_reducible apply rd_istr)
  | (with_reducible apply rd_istrE)
  | ((with_reducible apply u_isi); (focus (first | exact Or.inl rfl | exact Or.inr (Or.inl rfl) | exact Or.inr (Or.inr (Or.inl rfl)) | exact Or.inr (Or.inr (Or.inr rfl)))); (focus first | assumption | exact Rp.int _ | exact Rp.str _))
  | ((with_reducible apply rd_itL); (focus first | assumption | exact SqL.of (by assumption) | exact SqL.of upd_same))
  | ((with_reducible apply rd_itT); (focus first | assumption | exact SqT.of (by assumption) | exact SqT.of upd_same))
  | (with_reducible apply rd_lc)
  | (with_reducible apply rd_yes)
  | ((with_reducible apply u_pow); (focus (exact ⟨by decide, by decide, by decide⟩)))
  | (with_reducible apply u_mul; focus exact Or.inr cm)
  | (with_reducible apply rd_par3)
  | (with_reducible apply rd_par3_end)
  | ((with_reducible apply rd_aug); exact rfl)
  | (with_reducible apply rd_ipI)
  | (with_reducible apply rd_enA)
  | (with_reducible apply rd_revR)
  | (with_reducible apply rd_rg1)
  | (with_reducible apply rd_rng3)
  | ((with_reducible apply u_enT); (focus first | assumption | exact SqT.of (by assumption) | exact SqT.of upd_same))
  | ((with_reducible apply u_enL); (focus first | assumption | exact SqL.of (by assumption) | exact SqL.of upd_same))
  | (with_reducible apply rd_zip)
  | (with_reducible apply rd_lc2)
  | ((with_reducible apply rd_gtup); (focus first | assumption | exact SqT.of (by assumption) | exact SqT.of upd_same); (focus rfl))
  | (with_reducible apply rd_dnew)
  | (with_reducible apply rd_din)
  | (with_reducible apply rd_dget)
  | (with_reducible apply rd_dput)
  | (with_reducible apply rd_disp1)
  | (with_reducible apply rd_sl)
  | (with_reducible apply rd_part)
  | (with_reducible apply rd_partI)
  | (with_reducible apply rd_nopart)
  | (with_reducible apply u_isB)
  | (with_reducible apply u_repB)
  | (with_reducible apply u_notB)
  | (with_reducible apply rd_dc)
  | (with_reducible apply rd_bmT)
  | (with_reducible apply rd_tupF)
  | ((with_reducible apply rd_tyF); (focus assumption))
  | (with_reducible apply iteT)
  | (with_reducible apply iteF))
local macro_rules | `(tactic| walk_at "go") => `(tactic| repeat (walk_at "st"))
local macro_rules | `(tactic| walk_at "sp") => `(tactic| (first | refine rd_split (fun c => ?_) (fun c => ?_) | refine rd_splitN (fun c => ?_) (fun c => ?_) | refine rd_splitB (fun c => ?_) (fun c => ?_)))
local macro_rules | `(tactic| walk_at "nx") => `(tactic| repeat (first | (with_reducible apply iteF) | (with_reducible apply iteT) | (with_reducible apply rd_next)))

section
variable {P : Program} {w : World} {K : PySem.W.Frag} {mg : Str → Option Value} {base : Heap}
theorem zt_at : ∀ {l : List Jn} {n k : Nat} {y : Jn}, l[k]? = some y → ∃ t, (zt l n)[k]? = some (y, t) ∧ (tops n l)[k]? = some t
  | [], _, _, _, h => by simp at h
  | j :: r, n, 0, y, h => by
    have e : j = y := by simpa using h
    subst e
    exact ⟨n, rfl, rfl⟩
  | j :: r, n, k + 1, y, h => by
    obtain ⟨t, h1, h2⟩ := zt_at (l := r) (n := n + j.cnt) (k := k) (by simpa using h)
    exact ⟨t, by simpa only [zt, List.getElem?_cons_succ] using h1, by simpa only [tops, List.getElem?_cons_succ] using h2⟩
theorem none_ofS {H H' : Hp} {p : Addr} (s : Same H H') (h : H' p = none) : H p = none := by
  cases hh : H p with
  | none => rfl
  | some o => rw [s _ _ hh] at h; cases h
theorem sum_lenB {B : Nat} : ∀ (l : List Nat), (∀ n ∈ l, n ≤ B) → l.sum ≤ l.length * B
  | [], _ => by simp
  | a :: r, h => by
    have h1 := h a List.mem_cons_self
    have h2 := sum_lenB (B := B) r fun n hn => h n (List.mem_cons_of_mem _ hn)
    rw [List.sum_cons, List.length_cons, Nat.add_mul]
    omega
def postK (parts : List Jn) (n k : Nat) : List Nat := ((zt parts n).take k).flatMap fun p => Jn.post p.1 p.2
theorem postK_succ {parts : List Jn} {n k t : Nat} {y : Jn} (h : (zt parts n)[k]? = some (y, t)) : postK parts n (k + 1) = postK parts n k ++ Jn.post y t := by
  unfold postK
  rw [List.take_add_one, h, List.flatMap_append]
  simp
theorem postK_all {parts : List Jn} {n : Nat} : postK parts n parts.length = Jn.posts parts n := by
  unfold postK
  have lz : (zt parts n).length = parts.length := by rw [← List.length_map (f := (·.1)), zt_jns]
  rw [← lz, List.take_length, posts_zt]
theorem Kns.same {us : List Int} {rows : List V} {H H' : Hp} {D : Addr} {i : Nat} (h : Kns us rows H D i) (s : Same H H') : Kns us rows H' D i := ⟨h.1, fun x hx => by
  obtain ⟨r, h1, h2, h3⟩ := h.2 x hx
  exact ⟨r, h1, h2, s _ _ h3⟩⟩
def spFl (K : PySem.W.Frag) (n : Nat) : Sp := fun vs H Q _ => ∃ (b : Addr) (rows : List V) (j y : Jn) (x : Nat), vs = [.ref b, .int (x : Int)] ∧ H b = some (.lst rows) ∧ Kns (j.ups (-1) 0) rows H b j.cnt ∧ j.cnt ≤ 40 ∧ j.ok ∧ j.all[x]? = some y ∧ y.cnt ≤ n ∧ ∀ (H' : Hp) (r : Addr), Same H H' → H r = none → H' r = some (.lst (nV (Jn.post y x))) → Q (.ref r) H'
theorem use_fl {K : PySem.W.Frag} {n : Nat} {b : Addr} {rows : List V} {j y : Jn} {x : Nat} {H : Hp} {Q : VK} {E : XK} (h : H b = some (.lst rows)) (h1 : Kns (j.ups (-1) 0) rows H b j.cnt) (h2 : j.cnt ≤ 40) (h3 : j.ok) (h4 : j.all[x]? = some y) (h5 : y.cnt ≤ n) (q : ∀ (H' : Hp) (r : Addr), Same H H' → H r = none → H' r = some (.lst (nV (Jn.post y x))) → Q (.ref r) H') : spFl K n [.ref b, .int (x : Int)] H Q E := ⟨b, rows, j, y, x, rfl, h, h1, h2, h3, h4, h5, q⟩
abbrev s_law_from_left : Stmt := top 70
theorem sc_law_from_left : FnScope ["kin", "x", "row", "y"] ["kin", "x"] (defScope s_law_from_left) := ⟨rfl, rfl, rfl, by decide +kernel, rfl, by decide +kernel, by decide +kernel⟩
theorem base_fl {l : Nat} (O : OwnF K mg "_law_from_left" s_law_from_left) : HasF P w K mg base CX0 (l + 1) "_law_from_left" ["kin", "x"] (spFl K 0) := by
  refine has0 O sc_law_from_left (fun _ _ _ _ _ _ us hl => match us, hl with | [_, _], _ => rfl) (fun vs H Q E h => ?_) (fun f cdv A outer s_ H vs Q E hr h => ?_)
  · obtain ⟨b, rows, j, y, x, rfl, _⟩ := h
    rfl
  obtain ⟨b, rows, j, y, x, _, _, _, _, _, _, h1, _⟩ := h
  have := cnt_pos y
  omega
theorem step_fl {n l : Nat} (hl : 2 ≤ l) (O : OwnF K mg "_law_from_left" s_law_from_left) (B : Bl mg) (h_law_from_left : HasF P w K mg base CX0 l "_law_from_left" ["kin", "x"] (spFl K n)) :
    HasF P w K mg base CX0 (l + 1) "_law_from_left" ["kin", "x"] (spFl K (n + 1)) := by
  refine has0 O sc_law_from_left (fun _ _ _ _ _ _ us hl => match us, hl with | [_, _], _ => rfl) (fun vs H Q E h => ?_) (fun f cdv A outer s_ H vs Q E hr h => ?_)
  · obtain ⟨b, rows, j, y, x, rfl, _⟩ := h
    rfl
  obtain ⟨b, rows, j, y, x, rfl, hb, hK, h40, hok, hy, hn, q⟩ := h
  obtain ⟨op, td, parts⟩ := y
  have xl := lt_of_get hy
  rw [all_cnt] at xl
  obtain ⟨rk, hrk, hrk1, hrk2⟩ := hK.2 x xl
  rw [kinN_tops hy] at hrk2
  simp only [Jn.cnt] at hn
  have yok := ok_all j hok _ (List.mem_of_getElem? hy)
  simp only [Jn.ok] at yok
  have ysub := cnt_sub j _ (List.mem_of_getElem? hy)
  simp only [Jn.cnt] at ysub
  refine ⟨_, (pss_cons (ps_set (i := 2) sc_law_from_left.nd rfl (by first | exact Or.inl rfl | exact Or.inr rfl) (pe_lst pa_nil)) (pss_cons (ps_for PassesOwn.never rfl (pi_listK K (pe_ix (kIx K) (pv 0) (pv 1) (fun _ _ => rfl))) (pg_name (i := 3) sc_law_from_left.nd rfl (by first | exact Or.inl rfl | exact Or.inr rfl)) (pss_one (ps_set (i := 2) sc_law_from_left.nd rfl (by first | exact Or.inl rfl | exact Or.inr rfl) (pe_op (kAdd K) (pv 2) (pe_callH h_law_from_left (hr.mono (by first | decide | omega)) (by rfl) pass0 (pa_cons (pv 0) (pa_cons (pv 3) pa_nil))))))) (pss_one (ps_ret (pe_op (kAdd K) (pv 2) (pe_lst (pa_cons (pv 1) pa_nil))))))), ?_⟩
  refine st0 [some (.ref b), some (.int (x : Int)), none, none] rfl ?_
  walk_at "go"
  refine ⟨lk rfl, fun p hp => ?_⟩
  have sP := same_new hp (.lst [])
  walk_at "go"
  refine u_ixL (SqL.of (sP _ _ hb)) (atI_nat hrk) ?_
  walk_at "go"
  refine rd_itL (SqL.of (sP _ _ hrk2)) ?_
  refine forL (xs := nV (tops (x + 1) parts)) (fun k σ H' => ∃ (p : Addr) (o3 : Option V), σ = [some (.ref b), some (.int (x : Int)), some (.ref p), o3] ∧ Same H H' ∧ H p = none ∧ H' p = some (.lst (nV (postK parts (x + 1) k)))) ⟨p, _, rfl, sP, hp, upd_same⟩ ?_ ?_ ?_
  · rintro k σ H' hi ⟨p, o3, rfl, g1, g2, g3⟩
    exact SqL.of (g1 _ _ hrk2)
  · rintro k v σ H' hv ⟨p, o3, rfl, g1, g2, g3⟩
    unfold nV at hv
    rw [List.getElem?_map, Option.map_eq_some_iff] at hv
    obtain ⟨t, ht, rfl⟩ := hv
    have kl := lt_of_get ht
    rw [tops_len] at kl
    obtain ⟨y', hy'⟩ : ∃ y', parts[k]? = some y' := ⟨_, List.getElem?_eq_getElem kl⟩
    obtain ⟨t', z1, z2⟩ := zt_at (n := x + 1) hy'
    rw [ht, Option.some.injEq] at z2
    subst z2
    obtain ⟨t2, t21, t22, t23, t24⟩ := part_at hy hy'
    rw [ht, Option.some.injEq] at t21
    subst t21
    have ym := cnts_mem (List.mem_of_getElem? hy')
    walk_at "go"
    refine use_fl (g1 _ _ hb) (hK.same g1) h40 hok t24 (by omega) fun H2 r s2 hr e2 => ?_
    have yl : y'.cnt ≤ 40 := by omega
    have kpl : (postK parts (x + 1) k).length ≤ 160 := by
      unfold postK
      rw [List.length_flatMap]
      have h1 : ∀ p ∈ (zt parts (x + 1)).take k, (Jn.post p.1 p.2).length ≤ 40 := fun p hp => by
        obtain ⟨i, i1, i2⟩ := zt_get (List.mem_of_mem_take hp)
        have := cnts_mem (List.mem_of_getElem? i1)
        rw [post_len]
        omega
      have h2 : ((zt parts (x + 1)).take k).length ≤ 4 := by
        rw [List.length_take]
        have lz : (zt parts (x + 1)).length = parts.length := by rw [← List.length_map (f := (·.1)), zt_jns]
        have := yok.2.2.2.1
        omega
      refine Nat.le_trans (sum_lenB (B := 40) _ (fun n hn => ?_)) (by rw [List.length_map]; omega)
      obtain ⟨p, hp, rfl⟩ := List.mem_map.mp hn
      exact h1 p hp
    refine u_addL (s2 _ _ g3) e2 ?_ fun pw hpw => ?_
    · unfold nV
      rw [List.length_map, List.length_map, post_len]
      exact ll (by omega)
    have hn2 : H pw = none := none_ofS (g1.trans s2) hpw
    walk_at "go"
    exact ⟨pw, _, rfl, Same.new (g1.trans s2) hpw, hn2, by rw [upd_same, postK_succ z1, nV_app]⟩
  · rintro σ H' ⟨p, o3, rfl, g1, g2, g3⟩
    rw [show (nV (tops (x + 1) parts)).length = parts.length by unfold nV; rw [List.length_map, tops_len], postK_all] at g3
    walk_at "go"
    refine ⟨lk rfl, fun p1 hp1 => ?_⟩
    have np : p ≠ p1 := ne_of_none g3 hp1
    walk_at "go"
    refine u_addL (by rw [upd_ne np]; exact g3) upd_same ?_ fun pw hpw => ?_
    · unfold nV
      rw [List.length_map]
      have := congrArg List.length (show Jn.post (.mk op td parts) x = Jn.posts parts (x + 1) ++ [x] by simp only [Jn.post])
      rw [post_len, List.length_append] at this
      simp only [Jn.cnt] at this
      exact ll (by show _ + 1 ≤ _; omega)
    refine q _ pw (Same.new (Same.new g1 hp1) hpw) (none_ofS (Same.new g1 hp1) hpw) ?_
    rw [upd_same]
    simp only [Jn.post, nV_app]
    rfl
theorem has_from_left (O : OwnF K mg "_law_from_left" s_law_from_left) (B : Bl mg) : ∀ n : Nat, HasF P w K mg base CX0 (2 + n) "_law_from_left" ["kin", "x"] (spFl K n)
  | 0 => base_fl (l := 1) O
  | n + 1 => step_fl (Nat.le_add_right 2 n) O B (has_from_left O B n)
end
end Mine

/-! ### J8 -/
namespace Mine
open PySem PySem.Spec L2
local macro_rules | `(tactic| walk_at "st") => `(tactic| first
  | ((with_reducible apply rd_var); exact rfl)
  | (with_reducible apply rd_c)
  | (with_reducible apply rd_seq)
  | (with_reducible apply rd_asg)
  | (with_reducible apply rd_gname)
  | (with_reducible apply rd_op)
  | (with_reducible apply rd_cb)
  | (with_reducible apply rd_cons)
  | (with_reducible apply rd_nil)
  | (with_reducible apply rd_if)
  | (with_reducible apply rd_test)
  | (with_reducible apply rd_bl)
  | (with_reducible apply rd_retE)
  | (with_reducible apply rd_ret)
  | (with_reducible apply rd_call)
  | (with_reducible apply rd_tup)
  | (with_reducible apply rd_lst)
  | (with_reducible apply rd_drop)
  | (with_reducible apply rd_next)
  | (with_reducible apply rd_ife)
  | (with_reducible apply rd_gsub)
  | (with_reducible apply rd_par)
  | (with_reducible apply rd_par_end)
  | (with_reducible apply rd_un)
  | (with_reducible apply rd_and)
  | (with_reducible apply rd_or)
  | (with_reducible apply rd_not)
  | (with_reducible apply rd_andV)
  | (with_reducible apply rd_orV)
  | (with_reducible apply rd_notV)
  | (with_reducible apply rd_chain)
  | (with_reducible apply rd_tB)
  | (with_reducible apply rd_brk)
  | (with_reducible apply rd_ct)
  | (with_reducible apply u_add)
  | (with_reducible apply u_sub)
  | (with_reducible apply u_lt)
  | (with_reducible apply u_le)
  | (with_reducible apply u_gt)
  | (with_reducible apply u_ge)
  | (with_reducible apply u_eqI)
  | (with_reducible apply u_eqS)
  | (with_reducible apply u_neI)
  | (with_reducible apply u_int)
  | (with_reducible apply u_intB)
  | (with_reducible apply u_max)
  | (with_reducible apply u_min)
  | (with_reducible apply u_neg)
  | ((with_reducible apply u_mod); focus first | assumption | decide | omega)
  | ((with_reducible apply u_div); focus first | decide | omega | (constructor <;> first | assumption | omega))
  | ((with_reducible apply u_mul); focus first | exact Or.inl (by omega) | exact Or.inr (by omega) | exact Or.inl (by decide) | exact Or.inr (by decide))
  | ((with_reducible apply u_ixL); (focus (first | assumption | exact SqL.of (by assumption) | exact SqL.of upd_same)); exact rfl)
  | ((with_reducible apply u_lenL); focus (first | assumption | exact SqL.of (by assumption) | exact SqL.of upd_same))
  | ((with_reducible apply u_lenT); focus (first | assumption | exact SqT.of (by assumption) | exact SqT.of upd_same))
  | ((with_reducible apply u_setL); (focus (first | assumption | exact upd_same)); exact rfl)
  | (with_reducible apply rd_chain3)
  | (with_reducible apply rd_tru)
  | (with_reducible apply rd_truB)
  | ((with_reducible apply rd_truL); focus (first | assumption | exact SqL.of (by assumption) | exact SqL.of upd_same))
  | (with_reducible apply rd_bm)
  | (with_reducible apply rd_bm0)
  | ((with_reducible apply rd_tyL); focus (first | exact SqL.of (by assumption) | exact SqL.of upd_same))
  | (with_reducible apply u_min3)
  | (with_reducible apply rd_rev)
  | (with_reducible apply rd_iList)
  | (with_reducible apply rd_iTup)
  | (with_reducible apply rd_for)
  | (with_reducible apply rd_rng1)
  | (with_reducible apply rd_rng2)
  | ((with_reducible apply rd_rng1e); (focus omega); (focus omega))
  | ((with_reducible apply rd_rng2e); (focus omega))
  | (with_reducible apply rd_gcons)
  | (with_reducible apply rd_gnil)
  | (with_reducible apply rd_retN)
  | (with_reducible apply g_eqI)
  | (with_reducible apply g_eqS)
  | (with_reducible apply g_neI)
  | (with_reducible apply g_neS)
  | (with_reducible apply g_neB)
  | (with_reducible apply rd_xf)
  | (with_reducible apply rd_raiseE)
  | (with_reducible apply rd_callS)
  | (with_reducible apply u_inD)
  | (with_reducible apply u_notInD)
  | (with_reducible apply u_inS)
  | (with_reducible apply u_notInS)
  | (with_reducible apply rd_iSeq)
  | ((with_reducible apply rd_seqL); (focus first | assumption | exact SqL.of (by assumption) | exact SqL.of upd_same))
  | ((with_reducible apply rd_seqT); (focus first | assumption | exact SqT.of (by assumption) | exact SqT.of upd_same))
  | (with_reducible apply rd_istr)
  | (with_reducible apply rd_istrE)
  | ((with_reducible apply u_isi); (focus (first | exact Or.inl rfl | exact Or.inr (Or.inl rfl) | exact Or.inr (Or.inr (Or.inl rfl)) | exact Or.inr (Or.inr (Or.inr rfl)))); (focus first | assumption | exact Rp.int _ | exact Rp.str _))
  | ((with_reducible apply rd_itL); (focus first | assumption | exact SqL.of (by assumption) | exact SqL.of upd_same))
  | ((with_reducible apply rd_itT); (focus first | assumption | exact SqT.of (by assumption) | exact SqT.of upd_same))
  | (with_reducible apply rd_lc)
  | (with_reducible apply rd_yes)
  | ((with_reducible apply u_pow); (focus (exact ⟨by decide, by decide, by decide⟩)))
  | (with_reducible apply u_mul; focus exact Or.inr cm)
  | (with_reducible apply rd_par3)
  | (with_reducible apply rd_par3_end)
  | ((with_reducible apply rd_aug); exact rfl)
  | (with_reducible apply rd_ipI)
  | (with_reducible apply rd_enA)
  | (with_reducible apply rd_revR)
  | (with_reducible apply rd_rg1)
  | (with_reducible apply rd_rng3)
  | ((with_reducible apply u_enT); (focus first | assumption | exact SqT.of (by assumption) | exact SqT.of upd_same))
  | ((with_reducible apply u_enL); (focus first | assumption | exact SqL.of (by assumption) | exact SqL.of upd_same))
  | (with_reducible apply rd_zip)
  | (with_reducible apply rd_lc2)
  | ((with_reducible apply rd_gtup); (focus first | assumption | exact SqT.of (by assumption) | exact SqT.of upd_same); (focus rfl))
  | (with_reducible apply rd_dnew)
  | (with_reducible apply rd_din)
  | (with_reducible apply rd_dget)
  | (with_reducible apply rd_dput)
  | (with_reducible apply rd_disp1)
  | (with_reducible apply rd_sl)
  | (with_reducible apply rd_part)
  | (with_reducible apply rd_partI)
  | (with_reducible apply rd_nopart)
  | (with_reducible apply u_isB)
  | (with_reducible apply u_repB)
  | (with_reducible apply u_notB)
  | (with_reducible apply rd_dc)
  | (with_reducible apply rd_bmT)
  | (with_reducible apply rd_tupF)
  | ((with_reducible apply rd_tyF); (focus assumption))
  | (with_reducible apply iteT)
  | (with_reducible apply iteF))
local macro_rules | `(tactic| walk_at "go") => `(tactic| repeat (walk_at "st"))
local macro_rules | `(tactic| walk_at "sp") => `(tactic| (first | refine rd_split (fun c => ?_) (fun c => ?_) | refine rd_splitN (fun c => ?_) (fun c => ?_) | refine rd_splitB (fun c => ?_) (fun c => ?_)))
local macro_rules | `(tactic| walk_at "nx") => `(tactic| repeat (first | (with_reducible apply iteF) | (with_reducible apply iteT) | (with_reducible apply rd_next)))

section
variable {P : Program} {w : World} {K : PySem.W.Frag} {mg : Str → Option Value} {base : Heap}
theorem tops_at : ∀ {l : List Jn} {n k t : Nat}, (tops n l)[k]? = some t → t = n + Jn.cnts (l.take k)
  | [], _, _, _, h => by simp [tops] at h
  | j :: r, n, 0, t, h => by
    have e : n = t := by simpa [tops] using h
    simp [Jn.cnts, e]
  | j :: r, n, k + 1, t, h => by
    have h2 := tops_at (l := r) (n := n + j.cnt) (k := k) (by simpa only [tops, List.getElem?_cons_succ] using h)
    simp only [List.take_succ_cons, Jn.cnts]
    omega
theorem nV_len (l : List Nat) : (nV l).length = l.length := by unfold nV; rw [List.length_map]
def spUn (K : PySem.W.Frag) (n : Nat) : Sp := fun vs H Q _ => ∃ (b : Addr) (rows : List V) (j y : Jn) (x : Nat), vs = [.ref b, .int (x : Int)] ∧ H b = some (.lst rows) ∧ Kns (j.ups (-1) 0) rows H b j.cnt ∧ j.cnt ≤ 40 ∧ j.ok ∧ j.all[x]? = some y ∧ y.cnt ≤ n ∧ ∀ (H' : Hp) (r : Addr), Same H H' → H r = none → H' r = some (.lst (nV (List.range' x y.cnt))) → Q (.ref r) H'
theorem use_un {K : PySem.W.Frag} {n : Nat} {b : Addr} {rows : List V} {j y : Jn} {x : Nat} {H : Hp} {Q : VK} {E : XK} (h : H b = some (.lst rows)) (h1 : Kns (j.ups (-1) 0) rows H b j.cnt) (h2 : j.cnt ≤ 40) (h3 : j.ok) (h4 : j.all[x]? = some y) (h5 : y.cnt ≤ n) (q : ∀ (H' : Hp) (r : Addr), Same H H' → H r = none → H' r = some (.lst (nV (List.range' x y.cnt))) → Q (.ref r) H') : spUn K n [.ref b, .int (x : Int)] H Q E := ⟨b, rows, j, y, x, rfl, h, h1, h2, h3, h4, h5, q⟩
abbrev s_law_under : Stmt := top 71
theorem sc_law_under : FnScope ["kin", "x", "found", "y"] ["kin", "x"] (defScope s_law_under) := ⟨rfl, rfl, rfl, by decide +kernel, rfl, by decide +kernel, by decide +kernel⟩
theorem base_un {l : Nat} (O : OwnF K mg "_law_under" s_law_under) : HasF P w K mg base CX0 (l + 1) "_law_under" ["kin", "x"] (spUn K 0) := by
  refine has0 O sc_law_under (fun _ _ _ _ _ _ us hl => match us, hl with | [_, _], _ => rfl) (fun vs H Q E h => ?_) (fun f cdv A outer s_ H vs Q E hr h => ?_)
  · obtain ⟨b, rows, j, y, x, rfl, _⟩ := h
    rfl
  obtain ⟨b, rows, j, y, x, _, _, _, _, _, _, h1, _⟩ := h
  have := cnt_pos y
  omega
theorem step_un {n l : Nat} (hl : 2 ≤ l) (O : OwnF K mg "_law_under" s_law_under) (B : Bl mg) (h_law_under : HasF P w K mg base CX0 l "_law_under" ["kin", "x"] (spUn K n)) :
    HasF P w K mg base CX0 (l + 1) "_law_under" ["kin", "x"] (spUn K (n + 1)) := by
  refine has0 O sc_law_under (fun _ _ _ _ _ _ us hl => match us, hl with | [_, _], _ => rfl) (fun vs H Q E h => ?_) (fun f cdv A outer s_ H vs Q E hr h => ?_)
  · obtain ⟨b, rows, j, y, x, rfl, _⟩ := h
    rfl
  obtain ⟨b, rows, j, y, x, rfl, hb, hK, h40, hok, hy, hn, q⟩ := h
  obtain ⟨op, td, parts⟩ := y
  have xl := lt_of_get hy
  rw [all_cnt] at xl
  obtain ⟨rk, hrk, hrk1, hrk2⟩ := hK.2 x xl
  rw [kinN_tops hy] at hrk2
  simp only [Jn.cnt] at hn
  have ysub := cnt_sub j _ (List.mem_of_getElem? hy)
  simp only [Jn.cnt] at ysub
  refine ⟨_, (pss_cons (ps_set (i := 2) sc_law_under.nd rfl (by first | exact Or.inl rfl | exact Or.inr rfl) (pe_lst (pa_cons (pv 1) pa_nil))) (pss_cons (ps_for PassesOwn.never rfl (pi_listK K (pe_ix (kIx K) (pv 0) (pv 1) (fun _ _ => rfl))) (pg_name (i := 3) sc_law_under.nd rfl (by first | exact Or.inl rfl | exact Or.inr rfl)) (pss_one (ps_set (i := 2) sc_law_under.nd rfl (by first | exact Or.inl rfl | exact Or.inr rfl) (pe_op (kAdd K) (pv 2) (pe_callH h_law_under (hr.mono (by first | decide | omega)) (by rfl) pass0 (pa_cons (pv 0) (pa_cons (pv 3) pa_nil))))))) (pss_one (ps_ret (pv 2))))), ?_⟩
  refine st0 [some (.ref b), some (.int (x : Int)), none, none] rfl ?_
  walk_at "go"
  refine ⟨lk rfl, fun p hp => ?_⟩
  have sP := same_new hp (.lst [.int (x : Int)])
  walk_at "go"
  refine u_ixL (SqL.of (sP _ _ hb)) (atI_nat hrk) ?_
  walk_at "go"
  refine rd_itL (SqL.of (sP _ _ hrk2)) ?_
  refine forL (xs := nV (tops (x + 1) parts)) (fun k σ H' => ∃ (p : Addr) (o3 : Option V), σ = [some (.ref b), some (.int (x : Int)), some (.ref p), o3] ∧ Same H H' ∧ H p = none ∧ H' p = some (.lst (nV (List.range' x (1 + Jn.cnts (parts.take k)))))) ⟨p, _, rfl, sP, hp, by simp only [List.take_zero, Jn.cnts]; exact upd_same⟩ ?_ ?_ ?_
  · rintro k σ H' hi ⟨p, o3, rfl, g1, g2, g3⟩
    exact SqL.of (g1 _ _ hrk2)
  · rintro k v σ H' hv ⟨p, o3, rfl, g1, g2, g3⟩
    unfold nV at hv
    rw [List.getElem?_map, Option.map_eq_some_iff] at hv
    obtain ⟨t, ht, rfl⟩ := hv
    have kl := lt_of_get ht
    rw [tops_len] at kl
    obtain ⟨y', hy'⟩ : ∃ y', parts[k]? = some y' := ⟨_, List.getElem?_eq_getElem kl⟩
    have et := tops_at ht
    obtain ⟨t2, t21, t22, t23, t24⟩ := part_at hy hy'
    rw [ht, Option.some.injEq] at t21
    subst t21
    have ym := cnts_mem (List.mem_of_getElem? hy')
    have ec : Jn.cnts (parts.take (k + 1)) = Jn.cnts (parts.take k) + y'.cnt := by
      rw [List.take_add_one, hy', cnts_append]
      simp [Jn.cnts]
    have el : Jn.cnts (parts.take (k + 1)) ≤ Jn.cnts parts := by
      have e : parts = parts.take (k + 1) ++ parts.drop (k + 1) := (List.take_append_drop _ _).symm
      have := congrArg Jn.cnts e
      rw [cnts_append] at this
      omega
    walk_at "go"
    refine use_un (g1 _ _ hb) (hK.same g1) h40 hok t24 (by omega) fun H2 r s2 hr e2 => ?_
    refine u_addL (s2 _ _ g3) e2 ?_ fun pw hpw => ?_
    · rw [nV_len, nV_len, List.length_range', List.length_range']
      exact ll (by omega)
    have hn2 : H pw = none := none_ofS (g1.trans s2) hpw
    walk_at "go"
    refine ⟨pw, _, rfl, Same.new (g1.trans s2) hpw, hn2, ?_⟩
    rw [upd_same, ← nV_app, ec, ← Nat.add_assoc, et, show x + 1 + Jn.cnts (parts.take k) = x + 1 * (1 + Jn.cnts (parts.take k)) by omega, List.range'_append]
  · rintro σ H' ⟨p, o3, rfl, g1, g2, g3⟩
    rw [show (nV (tops (x + 1) parts)).length = parts.length by rw [nV_len, tops_len], List.take_length] at g3
    walk_at "go"
    exact q _ p g1 g2 (by simp only [Jn.cnt]; exact g3)
theorem has_under (O : OwnF K mg "_law_under" s_law_under) (B : Bl mg) : ∀ n : Nat, HasF P w K mg base CX0 (2 + n) "_law_under" ["kin", "x"] (spUn K n)
  | 0 => base_un (l := 1) O
  | n + 1 => step_un (Nat.le_add_right 2 n) O B (has_under O B n)
end
end Mine

/-! ### JB -/
set_option maxHeartbeats 400000
namespace Mine
open PySem PySem.Spec L2
/-! ## branchwise orders of a bough -/
/-- the bough of z stands side by side in l, z last -/
def Seg (j : Jn) (l : List Nat) (z : Nat) : Prop := ∀ w, j.all[z]? = some w → ∃ a m b, l = a ++ (m ++ [z]) ++ b ∧ (m ++ [z]).Perm (List.range' z w.cnt)
structure BrO (j y : Jn) (x : Nat) (l : List Nat) : Prop where
  perm : l.Perm (List.range' x y.cnt)
  seg : ∀ z, x ≤ z → z < x + y.cnt → Seg j l z
theorem Seg.app {j : Jn} {l : List Nat} {z : Nat} (h : Seg j l z) (p q : List Nat) : Seg j (p ++ l ++ q) z := fun w hw => by
  obtain ⟨a, m, b, e, hp⟩ := h w hw
  exact ⟨p ++ a, m, b ++ q, by rw [e]; simp only [List.append_assoc], hp⟩
theorem zt_ranges : ∀ (l : List Jn) (n : Nat), ((zt l n).flatMap fun p => List.range' p.2 p.1.cnt) = List.range' n (Jn.cnts l)
  | [], n => by simp [zt, Jn.cnts]
  | j :: r, n => by
    simp only [zt, List.flatMap_cons, zt_ranges r, Jn.cnts]
    rw [show n + j.cnt = n + 1 * j.cnt by omega, List.range'_append]
theorem erase_perm {α : Type} : ∀ {l : List α} {i : Nat} {p : α}, l[i]? = some p → (p :: l.eraseIdx i).Perm l
  | [], _, _, h => by simp at h
  | a :: r, 0, p, h => by
    have e : a = p := by simpa using h
    subst e
    exact List.Perm.refl _
  | a :: r, i + 1, p, h => by
    have h2 := erase_perm (l := r) (i := i) (p := p) (by simpa using h)
    simp only [List.eraseIdx_cons_succ]
    exact (List.Perm.swap a p _).trans (h2.cons a)
/-- some parts are done, the others are left -/
structure Half (j : Jn) (parts : List Jn) (x : Nat) (dn lf : List (Jn × Nat)) (rw : List Nat) : Prop where
  all : (dn ++ lf).Perm (zt parts (x + 1))
  perm : rw.Perm (dn.flatMap fun p => List.range' p.2 p.1.cnt)
  seg : ∀ p ∈ dn, ∀ z, p.2 ≤ z → z < p.2 + p.1.cnt → Seg j rw z
theorem Half.start (j : Jn) (parts : List Jn) (x : Nat) : Half j parts x [] (zt parts (x + 1)) [] := ⟨List.Perm.refl _, List.Perm.refl _, fun _ z => by cases z⟩
theorem Half.next {j : Jn} {parts : List Jn} {x i : Nat} {dn lf : List (Jn × Nat)} {rw l : List Nat} {p : Jn × Nat} (h : Half j parts x dn lf rw) (hp : lf[i]? = some p) (hl : BrO j p.1 p.2 l) : Half j parts x (dn ++ [p]) (lf.eraseIdx i) (rw ++ l) := by
  have hi := lt_of_get hp
  have e : lf[i] = p := by rw [List.getElem?_eq_getElem hi] at hp; exact Option.some.inj hp
  refine ⟨?_, ?_, ?_⟩
  · refine List.Perm.trans ?_ h.all
    rw [List.append_assoc]
    refine List.Perm.append_left dn ?_
    exact erase_perm hp
  · rw [List.flatMap_append]
    refine h.perm.append ?_
    simpa using hl.perm
  · intro q hq z z1 z2
    rcases List.mem_append.mp hq with hq | hq
    · have := (h.seg q hq z z1 z2).app [] l
      simpa using this
    · obtain rfl : q = p := by simpa using hq
      have := (hl.seg z z1 z2).app rw []
      simpa using this
theorem Half.fin {j : Jn} {x : Nat} {op : Str} {td : List PyData} {parts : List Jn} {dn : List (Jn × Nat)} {rw : List Nat} (h : Half j parts x dn [] rw) (hx : j.all[x]? = some (.mk op td parts)) : BrO j (.mk op td parts) x (rw ++ [x]) := by
  have hall := h.all
  rw [List.append_nil] at hall
  have hp : rw.Perm (List.range' (x + 1) (Jn.cnts parts)) := by
    rw [← zt_ranges]
    exact h.perm.trans (hall.flatMap_right _)
  have hper : (rw ++ [x]).Perm (List.range' x (Jn.mk op td parts).cnt) := by
    simp only [Jn.cnt]
    rw [Nat.add_comm 1, List.range'_succ]
    exact (List.perm_append_comm.trans (List.Perm.refl _)).trans (hp.cons x)
  refine ⟨hper, fun z z1 z2 => ?_⟩
  simp only [Jn.cnt] at z2
  by_cases c : z = x
  · subst c
    intro w hw
    rw [hx, Option.some.injEq] at hw
    subst hw
    exact ⟨[], rw, [], by simp, hper⟩
  · have hz : z ∈ List.range' (x + 1) (Jn.cnts parts) := by
      rw [List.mem_range'_1]
      omega
    rw [← zt_ranges, List.mem_flatMap] at hz
    obtain ⟨p, hp1, hp2⟩ := hz
    rw [List.mem_range'_1] at hp2
    have := (h.seg p (hall.mem_iff.mpr hp1) z hp2.1 hp2.2).app [] [x]
    simpa using this
end Mine

/-! ### J9 -/
namespace Mine
open PySem PySem.Spec L2
local macro_rules | `(tactic| walk_at "st") => `(tactic| first
  | ((with_reducible apply rd_var); exact rfl)
  | (with_reducible apply rd_c)
  | (with_reducible apply rd_seq)
  | (with_reducible apply rd_asg)
  | (with_reducible apply rd_gname)
  | (with_reducible apply rd_op)
  | (with_reducible apply rd_cb)
  | (with_reducible apply rd_cons)
  | (with_reducible apply rd_nil)
  | (with_reducible apply rd_if)
  | (with_reducible apply rd_test)
  | (with_reducible apply rd_bl)
  | (with_reducible apply rd_retE)
  | (with_reducible apply rd_ret)
  | (with_reducible apply rd_call)
  | (with_reducible apply rd_tup)
  | (with_reducible apply rd_lst)
  | (with_reducible apply rd_drop)
  | (with_reducible apply rd_next)
  | (with_reducible apply rd_ife)
  | (with_reducible apply rd_gsub)
  | (with_reducible apply rd_par)
  | (with_reducible apply rd_par_end)
  | (with_reducible apply rd_un)
  | (with_reducible apply rd_and)
  | (with_reducible apply rd_or)
  | (with_reducible apply rd_not)
  | (with_reducible apply rd_andV)
  | (with_reducible apply rd_orV)
  | (with_reducible apply rd_notV)
  | (with_reducible apply rd_chain)
  | (with_reducible apply rd_tB)
  | (with_reducible apply rd_brk)
  | (with_reducible apply rd_ct)
  | (with_reducible apply u_add)
  | (with_reducible apply u_sub)
  | (with_reducible apply u_lt)
  | (with_reducible apply u_le)
  | (with_reducible apply u_gt)
  | (with_reducible apply u_ge)
  | (with_reducible apply u_eqI)
  | (with_reducible apply u_eqS)
  | (with_reducible apply u_neI)
  | (with_reducible apply u_int)
  | (with_reducible apply u_intB)
  | (with_reducible apply u_max)
  | (with_reducible apply u_min)
  | (with_reducible apply u_neg)
  | ((with_reducible apply u_mod); focus first | assumption | decide | omega)
  | ((with_reducible apply u_div); focus first | decide | omega | (constructor <;> first | assumption | omega))
  | ((with_reducible apply u_mul); focus first | exact Or.inl (by omega) | exact Or.inr (by omega) | exact Or.inl (by decide) | exact Or.inr (by decide))
  | ((with_reducible apply u_ixL); (focus (first | assumption | exact SqL.of (by assumption) | exact SqL.of upd_same)); exact rfl)
  | ((with_reducible apply u_lenL); focus (first | assumption | exact SqL.of (by assumption) | exact SqL.of upd_same))
  | ((with_reducible apply u_lenT); focus (first | assumption | exact SqT.of (by assumption) | exact SqT.of upd_same))
  | ((with_reducible apply u_setL); (focus (first | assumption | exact upd_same)); exact rfl)
  | (with_reducible apply rd_chain3)
  | (with_reducible apply rd_tru)
  | (with_reducible apply rd_truB)
  | ((with_reducible apply rd_truL); focus (first | assumption | exact SqL.of (by assumption) | exact SqL.of upd_same))
  | (with_reducible apply rd_bm)
  | (with_reducible apply rd_bm0)
  | ((with_reducible apply rd_tyL); focus (first | exact SqL.of (by assumption) | exact SqL.of upd_same))
  | (with_reducible apply u_min3)
  | (with_reducible apply rd_rev)
  | (with_reducible apply rd_iList)
  | (with_reducible apply rd_iTup)
  | (with_reducible apply rd_for)
  | (with_reducible apply rd_rng1)
  | (with_reducible apply rd_rng2)
  | ((with_reducible apply rd_rng1e); (focus omega); (focus omega))
  | ((with_reducible apply rd_rng2e); (focus omega))
  | (with_reducible apply rd_gcons)
  | (with_reducible apply rd_gnil)
  | (with_reducible apply rd_retN)
  | (with_reducible apply g_eqI)
  | (with_reducible apply g_eqS)
  | (with_reducible apply g_neI)
  | (with_reducible apply g_neS)
  | (with_reducible apply g_neB)
  | (with_reducible apply rd_xf)
  | (with_reducible apply rd_raiseE)
  | (with_reducible apply rd_callS)
  | (with_reducible apply u_inD)
  | (with_reducible apply u_notInD)
  | (with_reducible apply u_inS)
  | (with_reducible apply u_notInS)
  | (with_reducible apply rd_iSeq)
  | ((with_reducible apply rd_seqL); (focus first | assumption | exact SqL.of (by assumption) | exact SqL.of upd_same))
  | ((with_reducible apply rd_seqT); (focus first | assumption | exact SqT.of (by assumption) | exact SqT.of upd_same))
  | (with_reducible apply rd_istr)
  | (with_reducible apply rd_istrE)
  | ((with_reducible apply u_isi); (focus (first | exact Or.inl rfl | exact Or.inr (Or.inl rfl) | exact Or.inr (Or.inr (Or.inl rfl)) | exact Or.inr (Or.inr (Or.inr rfl)))); (focus first | assumption | exact Rp.int _ | exact Rp.str _))
  | ((with_reducible apply rd_itL); (focus first | assumption | exact SqL.of (by assumption) | exact SqL.of upd_same))
  | ((with_reducible apply rd_itT); (focus first | assumption | exact SqT.of (by assumption) | exact SqT.of upd_same))
  | (with_reducible apply rd_lc)
  | (with_reducible apply rd_yes)
  | ((with_reducible apply u_pow); (focus (exact ⟨by decide, by decide, by decide⟩)))
  | (with_reducible apply u_mul; focus exact Or.inr cm)
  | (with_reducible apply rd_par3)
  | (with_reducible apply rd_par3_end)
  | ((with_reducible apply rd_aug); exact rfl)
  | (with_reducible apply rd_ipI)
  | (with_reducible apply rd_enA)
  | (with_reducible apply rd_revR)
  | (with_reducible apply rd_rg1)
  | (with_reducible apply rd_rng3)
  | ((with_reducible apply u_enT); (focus first | assumption | exact SqT.of (by assumption) | exact SqT.of upd_same))
  | ((with_reducible apply u_enL); (focus first | assumption | exact SqL.of (by assumption) | exact SqL.of upd_same))
  | (with_reducible apply rd_zip)
  | (with_reducible apply rd_lc2)
  | ((with_reducible apply rd_gtup); (focus first | assumption | exact SqT.of (by assumption) | exact SqT.of upd_same); (focus rfl))
  | (with_reducible apply rd_dnew)
  | (with_reducible apply rd_din)
  | (with_reducible apply rd_dget)
  | (with_reducible apply rd_dput)
  | (with_reducible apply rd_disp1)
  | (with_reducible apply rd_sl)
  | (with_reducible apply rd_part)
  | (with_reducible apply rd_partI)
  | (with_reducible apply rd_nopart)
  | (with_reducible apply u_isB)
  | (with_reducible apply u_repB)
  | (with_reducible apply u_notB)
  | (with_reducible apply rd_dc)
  | (with_reducible apply rd_bmT)
  | (with_reducible apply rd_tupF)
  | ((with_reducible apply rd_tyF); (focus assumption))
  | (with_reducible apply iteT)
  | (with_reducible apply iteF))
local macro_rules | `(tactic| walk_at "go") => `(tactic| repeat (walk_at "st"))
local macro_rules | `(tactic| walk_at "sp") => `(tactic| (first | refine rd_split (fun c => ?_) (fun c => ?_) | refine rd_splitN (fun c => ?_) (fun c => ?_) | refine rd_splitB (fun c => ?_) (fun c => ?_)))
local macro_rules | `(tactic| walk_at "nx") => `(tactic| repeat (first | (with_reducible apply iteF) | (with_reducible apply iteT) | (with_reducible apply rd_next)))

section
variable {P : Program} {w : World} {K : PySem.W.Frag} {mg : Str → Option Value} {base : Heap}
theorem Src.put {H : Hp} {a p : Addr} {o : HO} (h : Src H a) (n : p ≠ a) : Src (upd H p o) a := by
  obtain ⟨b, t, e, r⟩ := h
  exact ⟨b, t, by rw [upd_ne n.symm]; exact e, r⟩
theorem Kns.sb {us : List Int} {rows : List V} {H H' : Hp} {D a : Addr} {i : Nat} (h : Kns us rows H D i) (n : ∀ (x : Nat) (r : Addr), rows[x]? = some (.ref r) → r ≠ a) (s : SB a H H') : Kns us rows H' D i := ⟨h.1, fun x hx => by
  obtain ⟨r, h1, h2, h3⟩ := h.2 x hx
  exact ⟨r, h1, h2, s _ _ (n x r h1) h3⟩⟩
theorem erase_map {α β : Type} (f : α → β) : ∀ (l : List α) (i : Nat), (l.map f).eraseIdx i = (l.eraseIdx i).map f
  | [], i => by simp
  | a :: r, 0 => by simp
  | a :: r, i + 1 => by simp only [List.map_cons, List.eraseIdx_cons_succ, erase_map f r i]
def spBd (K : PySem.W.Frag) (n : Nat) : Sp := fun vs H Q _ => ∃ (a b : Addr) (rows : List V) (j y : Jn) (x : Nat), vs = [.ref a, .ref b, .int (x : Int)] ∧ Src H a ∧ b ≠ a ∧ H b = some (.lst rows) ∧ Kns (j.ups (-1) 0) rows H b j.cnt ∧ (∀ (x : Nat) (r : Addr), rows[x]? = some (.ref r) → r ≠ a) ∧ j.cnt ≤ 40 ∧ j.ok ∧ j.all[x]? = some y ∧ y.cnt ≤ n ∧
  ∀ (H' : Hp) (r : Addr) (l : List Nat), SB a H H' → Src H' a → r ≠ a → H r = none → H' r = some (.lst (nV l)) → BrO j y x l → Q (.ref r) H'
theorem use_bd {K : PySem.W.Frag} {n : Nat} {a b : Addr} {rows : List V} {j y : Jn} {x : Nat} {H : Hp} {Q : VK} {E : XK} (hS : Src H a) (hba : b ≠ a) (h : H b = some (.lst rows)) (h1 : Kns (j.ups (-1) 0) rows H b j.cnt) (hr : ∀ (x : Nat) (r : Addr), rows[x]? = some (.ref r) → r ≠ a) (h2 : j.cnt ≤ 40) (h3 : j.ok) (h4 : j.all[x]? = some y) (h5 : y.cnt ≤ n)
    (q : ∀ (H' : Hp) (r : Addr) (l : List Nat), SB a H H' → Src H' a → r ≠ a → H r = none → H' r = some (.lst (nV l)) → BrO j y x l → Q (.ref r) H') : spBd K n [.ref a, .ref b, .int (x : Int)] H Q E := ⟨a, b, rows, j, y, x, rfl, hS, hba, h, h1, hr, h2, h3, h4, h5, q⟩
abbrev s_law_branched : Stmt := top 69
theorem sc_law_branched : FnScope ["source", "kin", "x", "left", "row", "y", "turn"] ["source", "kin", "x"] (defScope s_law_branched) := ⟨rfl, rfl, rfl, by decide +kernel, rfl, by decide +kernel, by decide +kernel⟩
theorem base_bd {l : Nat} (O : OwnF K mg "_law_branched" s_law_branched) : HasF P w K mg base CX0 (l + 1) "_law_branched" ["source", "kin", "x"] (spBd K 0) := by
  refine has0 O sc_law_branched (fun _ _ _ _ _ _ us hl => match us, hl with | [_, _, _], _ => rfl) (fun vs H Q E h => ?_) (fun f cdv A outer s_ H vs Q E hr h => ?_)
  · obtain ⟨a, b, rows, j, y, x, rfl, _⟩ := h
    rfl
  obtain ⟨a, b, rows, j, y, x, _, _, _, _, _, _, _, _, _, h1, _⟩ := h
  have := cnt_pos y
  omega
theorem step_bd {n l : Nat} (hl : 2 ≤ l) (O : OwnF K mg "_law_branched" s_law_branched) (B : Bl mg) (h_law_take : HasF P w K mg base CX0 1 "_law_take" ["source", "top"] spTake) (h_law_branched : HasF P w K mg base CX0 l "_law_branched" ["source", "kin", "x"] (spBd K n)) :
    HasF P w K mg base CX0 (l + 1) "_law_branched" ["source", "kin", "x"] (spBd K (n + 1)) := by
  refine has0 O sc_law_branched (fun _ _ _ _ _ _ us hl => match us, hl with | [_, _, _], _ => rfl) (fun vs H Q E h => ?_) (fun f cdv A outer s_ H vs Q E hr h => ?_)
  · obtain ⟨a, b, rows, j, y, x, rfl, _⟩ := h
    rfl
  obtain ⟨a, b, rows, j, y, x, rfl, hS, hba, hb, hK, hra, h40, hok, hy, hn, q⟩ := h
  obtain ⟨op, td, parts⟩ := y
  have xl := lt_of_get hy
  rw [all_cnt] at xl
  obtain ⟨rk, hrk, hrk1, hrk2⟩ := hK.2 x xl
  have hrka := hra x rk hrk
  rw [kinN_tops hy] at hrk2
  simp only [Jn.cnt] at hn
  have yok := ok_all j hok _ (List.mem_of_getElem? hy)
  simp only [Jn.ok] at yok
  have ysub := cnt_sub j _ (List.mem_of_getElem? hy)
  simp only [Jn.cnt] at ysub
  have lz : (zt parts (x + 1)).length = parts.length := by rw [← List.length_map (f := (·.1)), zt_jns]
  refine ⟨_, (pss_cons (ps_par (i := 3) (j := 4) (by rfl) sc_law_branched.nd rfl rfl (by decide) rfl rfl (pa_cons (pe_lc (own := [("y", 5)]) (g := gName 5) (tt := tYes) rfl sc_law_branched.nd (pi_listK K (pe_ix (kIx K) (pv 1) (pv 2) (fun _ _ => rfl))) (blkOk_by (own := [("y", 5)]) (N := ["source", "kin", "x", "left", "row", "y", "turn"]) (sc := defScope s_law_branched) (by decide +kernel)) (fun _ _ _ _ _ => (pg_name (i := 5) sc_law_branched.nd rfl (by first | exact Or.inl rfl | exact Or.inr rfl))) (fun _ _ _ _ _ => pts_nil) (fun _ _ _ _ _ => (pv 5))) (pa_cons (pe_lst pa_nil) pa_nil)) (by rfl)) (pss_cons (ps_for PassesOwn.never rfl (pi_range1 (by rfl) B.range (pa_cons (pe_callB (kLen K) (by rfl) B.len (by decide +kernel) (pa_cons (pe_ix (kIx K) (pv 1) (pv 2) (fun _ _ => rfl)) pa_nil)) pa_nil)) (pg_name (i := 6) sc_law_branched.nd rfl (by first | exact Or.inl rfl | exact Or.inr rfl)) (pss_one (ps_set (i := 4) sc_law_branched.nd rfl (by first | exact Or.inl rfl | exact Or.inr rfl) (pe_op (kAdd K) (pv 4) (pe_callH h_law_branched (hr.mono (by first | decide | omega)) (by rfl) pass0 (pa_cons (pv 0) (pa_cons (pv 1) (pa_cons (pe_bmK K PySem.F.plainAttrs_list PySem.F.slot_list_pop PySem.F.type_list_pop mt_popAt (pv 3) (pa_cons (pe_callH h_law_take (hr.mono (by first | decide | omega)) (by rfl) pass0 (pa_cons (pv 0) (pa_cons (pe_callB (kLen K) (by rfl) B.len (by decide +kernel) (pa_cons (pv 3) pa_nil)) pa_nil))) pa_nil)) pa_nil)))))))) (pss_one (ps_ret (pe_op (kAdd K) (pv 4) (pe_lst (pa_cons (pv 2) pa_nil))))))), ?_⟩
  refine st0 [some (.ref a), some (.ref b), some (.int (x : Int)), none, none, none, none] rfl ?_
  walk_at "go"
  refine u_ixL (SqL.of hb) (atI_nat hrk) ?_
  walk_at "go"
  intro D hD
  refine lc_list (xs := nV (tops (x + 1) parts)) (fun k H' => H' D = some (.lst ((nV (tops (x + 1) parts)).take k)) ∧ Same H H') ⟨upd_same, Same.upd_new (Same.refl H) hD⟩ ?_ ?_ ?_
  · rintro k H' hk ⟨g1, g2⟩
    exact SqL.of (g2 _ _ hrk2)
  · rintro k v H' hv ⟨g1, g2⟩
    walk_at "go"
    refine ⟨rfl, ?_⟩
    walk_at "go"
    have hv2 := lt_of_get hv
    rw [nV_len, tops_len] at hv2
    refine ⟨_, g1, ?_, ?_, Same.upd_new g2 hD⟩
    · rw [List.length_take, nV_len, tops_len]
      exact ls (by omega)
    · rw [upd_same, List.take_add_one, hv] <;> rfl
  rintro H1 ⟨g1, g2⟩
  rw [List.take_length] at g1
  walk_at "go"
  refine ⟨lk rfl, fun pr hpr => ?_⟩
  have nDp : D ≠ pr := ne_of_none g1 hpr
  have s2 : Same H (upd H1 pr (.lst [])) := Same.new g2 hpr
  have gD : (upd H1 pr (.lst [])) D = some (.lst (nV ((zt parts (x + 1)).map (·.2)))) := by rw [upd_ne nDp, zt_tops]; exact g1
  have gP : (upd H1 pr (.lst [])) pr = some (.lst (nV [])) := upd_same
  have hDa : D ≠ a := hS.ne hD
  have hpr0 : H pr = none := none_ofS g2 hpr
  have hpra : pr ≠ a := hS.ne hpr0
  generalize upd H1 pr (.lst []) = H2 at *
  walk_at "go"
  refine u_ixL (SqL.of (s2 _ _ hb)) (atI_nat hrk) ?_
  walk_at "go"
  refine u_lenL (SqL.of (s2 _ _ hrk2)) ?_
  rw [nV_len, tops_len]
  walk_at "go"
  refine forR (fun k σ H' => ∃ (pr : Addr) (o6 : Option V) (dn lf : List (Jn × Nat)) (rw_ : List Nat), σ = [some (.ref a), some (.ref b), some (.int (x : Int)), some (.ref D), some (.ref pr), none, o6] ∧ SB a H H' ∧ Src H' a ∧ H' D = some (.lst (nV (lf.map (·.2)))) ∧ H' pr = some (.lst (nV rw_)) ∧ pr ≠ a ∧ pr ≠ D ∧ H pr = none ∧ Half j parts x dn lf rw_ ∧ lf.length + k = parts.length)
    ⟨pr, _, [], zt parts (x + 1), [], rfl, SB.of_same s2, hS.same s2, gD, gP, hpra, nDp.symm, hpr0, Half.start j parts x, by omega⟩ ?_ ?_
  · rintro k σ H' hk ⟨pr, o6, dn, lf, rw_, rfl, k1, k2, k3, k4, k5, k6, k7, k8, k9⟩
    have hk2 : k < parts.length := by
      have hk3 : k < ((parts.length : Nat) : Int).toNat := hk
      omega
    walk_at "go"
    rw [nV_len, List.length_map]
    refine use_take k2 (by omega) (by omega) fun H3 r s3 hS3 r0 r1 => ?_
    obtain ⟨i, rfl⟩ : ∃ i : Nat, r = i := ⟨r.toNat, by omega⟩
    have hil : i < lf.length := by omega
    obtain ⟨p, hp⟩ : ∃ p, lf[i]? = some p := ⟨_, List.getElem?_eq_getElem hil⟩
    have e3 : H3 D = some (.lst (nV (lf.map (·.2)))) := s3 _ _ hDa k3
    have ep : (nV (lf.map (·.2)))[i]? = some (V.int (p.2 : Int)) := by
      unfold nV
      rw [List.getElem?_map, List.getElem?_map, hp] <;> rfl
    walk_at "go"
    refine ⟨D, _, (i : Int), i, _, rfl, rfl, e3, by omega, by omega, ?_, ep, ?_⟩
    · unfold seqIndex?
      rw [nV_len, List.length_map]
      simp
      omega
    have e4 : (nV (lf.map (·.2))).eraseIdx i = nV ((lf.eraseIdx i).map (·.2)) := by
      unfold nV
      rw [erase_map, erase_map]
    rw [e4]
    have s4 : SB a H (upd H3 D (.lst (nV ((lf.eraseIdx i).map (·.2))))) := SB.upd_new (k1.trans s3) hD
    have hS4 := hS3.put (o := .lst (nV ((lf.eraseIdx i).map (·.2)))) hDa
    have f4 : (upd H3 D (.lst (nV ((lf.eraseIdx i).map (·.2))))) D = some (.lst (nV ((lf.eraseIdx i).map (·.2)))) := upd_same
    have p4 : (upd H3 D (.lst (nV ((lf.eraseIdx i).map (·.2))))) pr = some (.lst (nV rw_)) := by rw [upd_ne k6]; exact s3 _ _ k5 k4
    generalize upd H3 D (.lst (nV ((lf.eraseIdx i).map (·.2)))) = H4 at *
    have pz : p ∈ zt parts (x + 1) := k8.all.mem_iff.mp (List.mem_append_right _ (List.mem_of_getElem? hp))
    obtain ⟨i2, z1, z2⟩ := zt_get pz
    obtain ⟨t, t1, t2, t3, t4⟩ := part_at hy z1
    rw [z2, Option.some.injEq] at t1
    rw [← t1] at t4
    have ym := cnts_mem (List.mem_of_getElem? z1)
    walk_at "go"
    refine use_bd hS4 hba (s4 _ _ hba hb) (hK.sb hra s4) hra h40 hok t4 (by omega) fun H5 r5 l5 s5 hS5 n5 h5 f5 b5 => ?_
    have hN := k8.next hp b5
    have s45 := s4.trans s5
    refine u_addL (s5 _ _ k5 p4) f5 ?_ fun pw hpw => ?_
    · rw [nV_len, nV_len]
      have l1 := b5.perm.length_eq
      rw [List.length_range'] at l1
      have l2 := k8.perm.length_eq
      have l3 : (dn.flatMap fun p => List.range' p.2 p.1.cnt).length ≤ ((dn ++ lf).flatMap fun p => List.range' p.2 p.1.cnt).length := by
        rw [List.flatMap_append, List.length_append]
        omega
      have l4 := (k8.all.flatMap_right fun p => List.range' p.2 p.1.cnt).length_eq
      rw [zt_ranges, List.length_range'] at l4
      exact ll (by omega)
    have pwa : pw ≠ a := hS5.ne hpw
    have npD : pw ≠ D := (ne_of_none (s5 _ _ hDa f4) hpw).symm
    walk_at "go"
    refine ⟨pw, _, dn ++ [p], lf.eraseIdx i, rw_ ++ l5, rfl, s45.new hpw, hS5.new hpw, by rw [upd_ne npD.symm]; exact s5 _ _ hDa f4, by rw [upd_same, nV_app], pwa, npD, s45.fresh pwa hpw, hN, ?_⟩
    rw [List.length_eraseIdx_of_lt hil]
    omega
  · rintro σ H' ⟨pr, o6, dn, lf, rw_, rfl, k1, k2, k3, k4, k5, k6, k7, k8, k9⟩
    have e : lf = [] := by
      apply List.eq_nil_of_length_eq_zero
      have k10 : lf.length + ((parts.length : Nat) : Int).toNat = parts.length := k9
      omega
    subst e
    have fin := k8.fin hy
    walk_at "go"
    refine ⟨lk rfl, fun p1 hp1 => ?_⟩
    have np : pr ≠ p1 := ne_of_none k4 hp1
    walk_at "go"
    refine u_addL (by rw [upd_ne np]; exact k4) upd_same ?_ fun pw hpw => ?_
    · rw [nV_len]
      have := fin.perm.length_eq
      rw [List.length_append, List.length_range'] at this
      simp only [Jn.cnt, List.length_cons, List.length_nil] at this
      exact ll (by show _ + 1 ≤ _; omega)
    have sb := (k1.new hp1).new (o := .lst (nV rw_ ++ [.int (x : Int)])) hpw
    have pwa : pw ≠ a := (k2.new hp1).ne hpw
    exact q _ pw (rw_ ++ [x]) sb ((k2.new hp1).new hpw) pwa ((k1.new hp1).fresh pwa hpw) (by rw [upd_same, nV_app] <;> rfl) fin
theorem has_branched (O : OwnF K mg "_law_branched" s_law_branched) (B : Bl mg) (h_law_take : HasF P w K mg base CX0 1 "_law_take" ["source", "top"] spTake) : ∀ n : Nat, HasF P w K mg base CX0 (2 + n) "_law_branched" ["source", "kin", "x"] (spBd K n)
  | 0 => base_bd (l := 1) O
  | n + 1 => step_bd (Nat.le_add_right 2 n) O B h_law_take (has_branched O B h_law_take n)
end
end Mine

/-! ### JC -/
set_option maxHeartbeats 400000
namespace Mine
open PySem PySem.Spec L2
/-! ## an order by own look -/
theorem nodup_le : ∀ {l m : List Nat}, l.Nodup → (∀ x ∈ l, x ∈ m) → l.length ≤ m.length
  | [], _, _, _ => by simp
  | a :: r, m, h, hs => by
    have hm := hs a List.mem_cons_self
    have hr := (List.nodup_cons.mp h)
    have h2 := nodup_le (l := r) (m := m.erase a) hr.2 fun x hx => by
      have hne : x ≠ a := fun z => hr.1 (z ▸ hx)
      exact (List.mem_erase_of_ne hne).mpr (hs x (List.mem_cons_of_mem _ hx))
    rw [List.length_erase_of_mem hm] at h2
    have : 0 < m.length := List.length_pos_of_mem hm
    rw [List.length_cons]
    omega
/-- what is made, beside the numbers that came -/
structure Made (n : Nat) (bs : List Bool) (l : List Nat) : Prop where
  len : bs.length = n
  nd : l.Nodup
  lt : ∀ x ∈ l, x < n
  is : ∀ y, y < n → bs.getD y false = decide (y ∈ l)
theorem Made.start (n : Nat) : Made n (List.replicate n false) [] := ⟨by simp, List.nodup_nil, fun x hx => by (cases hx), fun y hy => by simp [List.getD_eq_getElem?_getD, hy]⟩
theorem Made.next {n x : Nat} {bs : List Bool} {l : List Nat} (h : Made n bs l) (hx : x < n) (hn : x ∉ l) : Made n (bs.set x true) (l ++ [x]) := by
  refine ⟨by rw [List.length_set]; exact h.len, ?_, fun y hy => ?_, fun y hy => ?_⟩
  · rw [List.nodup_append]
    refine ⟨h.nd, by simp, fun a ha b hb eab => ?_⟩
    have e2 : b = x := by simpa using hb
    subst e2
    exact hn (eab ▸ ha)
  · rcases List.mem_append.mp hy with hy | hy
    · exact h.lt y hy
    · have : y = x := by simpa using hy
      omega
  · have e := h.is y hy
    rw [List.getD_eq_getElem?_getD] at e ⊢
    by_cases c : x = y
    · subst c
      rw [List.getElem?_set_self (by rw [h.len]; exact hx)]
      simp
    · rw [List.getElem?_set_ne c, e]
      simp [Ne.symm c]
theorem Made.all {n : Nat} {bs : List Bool} {l : List Nat} (h : Made n bs l) : bs.all id = decide (n ≤ l.length) := by
  by_cases c : n ≤ l.length
  · rw [decide_eq_true c, List.all_eq_true]
    intro b hb
    obtain ⟨y, hy⟩ := List.getElem?_of_mem hb
    have yl := lt_of_get hy
    rw [h.len] at yl
    have e := h.is y yl
    rw [List.getD_eq_getElem?_getD, hy, Option.getD_some] at e
    rw [e]
    refine decide_eq_true ?_
    refine Classical.byContradiction fun hn => ?_
    have h2 := nodup_le (l := l ++ [y]) (m := List.range n) (by
      rw [List.nodup_append]
      refine ⟨h.nd, by simp, fun a ha b hb eab => ?_⟩
      have e2 : b = y := by simpa using hb
      subst e2
      exact hn (eab ▸ ha)) fun x hx => by
        rw [List.mem_range]
        rcases List.mem_append.mp hx with hx | hx
        · exact h.lt x hx
        · have : x = y := by simpa using hx
          omega
    rw [List.length_append, List.length_range] at h2
    simp at h2
    omega
  · rw [decide_eq_false c]
    refine Bool.eq_false_iff.mpr fun ha => c ?_
    rw [List.all_eq_true] at ha
    have h2 := nodup_le (l := List.range n) (m := l) List.nodup_range fun y hy => by
      rw [List.mem_range] at hy
      have e := h.is y hy
      have yl : y < bs.length := by rw [h.len]; exact hy
      rw [List.getD_eq_getElem?_getD, List.getElem?_eq_getElem yl, Option.getD_some] at e
      have := ha bs[y] (List.getElem_mem yl)
      rw [e] at this
      exact of_decide_eq_true this
    rwa [List.length_range] at h2
/-- whether x may come behind those of l -/
def mayL (kin : Nat → List Nat) (n : Nat) (l : List Nat) (x : Int) : Bool := decide (0 ≤ x) && decide (x < n) && !(decide (x.toNat ∈ l)) && (kin x.toNat).all fun y => decide (y ∈ l)
theorem Made.may {kin : Nat → List Nat} {n : Nat} {bs : List Bool} {l : List Nat} (h : Made n bs l) (hk : ∀ x, x < n → ∀ y ∈ kin x, y < n) (x : Int) : mayB kin bs (.int x) = mayL kin n l x := by
  simp only [mayB, mayL, h.len]
  by_cases c1 : 0 ≤ x
  · by_cases c2 : x < n
    · have hx : x.toNat < n := by omega
      have e : bs.getD x.toNat true = decide (x.toNat ∈ l) := by
        rw [← h.is _ hx, List.getD_eq_getElem?_getD, List.getD_eq_getElem?_getD, List.getElem?_eq_getElem (by rw [h.len]; exact hx)] <;> rfl
      rw [e]
      congr 1
      rw [Bool.eq_iff_iff, List.all_eq_true, List.all_eq_true]
      exact ⟨fun ha y hy => by rw [← h.is y (hk _ hx y hy)]; exact ha y hy, fun ha y hy => by rw [h.is y (hk _ hx y hy)]; exact ha y hy⟩
    · simp [c2]
  · simp [c1]
end Mine

/-! ### JD -/
namespace Mine
open PySem PySem.Spec L2
local macro_rules | `(tactic| walk_at "st") => `(tactic| first
  | ((with_reducible apply rd_var); exact rfl)
  | (with_reducible apply rd_c)
  | (with_reducible apply rd_seq)
  | (with_reducible apply rd_asg)
  | (with_reducible apply rd_gname)
  | (with_reducible apply rd_op)
  | (with_reducible apply rd_cb)
  | (with_reducible apply rd_cons)
  | (with_reducible apply rd_nil)
  | (with_reducible apply rd_if)
  | (with_reducible apply rd_test)
  | (with_reducible apply rd_bl)
  | (with_reducible apply rd_retE)
  | (with_reducible apply rd_ret)
  | (with_reducible apply rd_call)
  | (with_reducible apply rd_tup)
  | (with_reducible apply rd_lst)
  | (with_reducible apply rd_drop)
  | (with_reducible apply rd_next)
  | (with_reducible apply rd_ife)
  | (with_reducible apply rd_gsub)
  | (with_reducible apply rd_par)
  | (with_reducible apply rd_par_end)
  | (with_reducible apply rd_un)
  | (with_reducible apply rd_and)
  | (with_reducible apply rd_or)
  | (with_reducible apply rd_not)
  | (with_reducible apply rd_andV)
  | (with_reducible apply rd_orV)
  | (with_reducible apply rd_notV)
  | (with_reducible apply rd_chain)
  | (with_reducible apply rd_tB)
  | (with_reducible apply rd_brk)
  | (with_reducible apply rd_ct)
  | (with_reducible apply u_add)
  | (with_reducible apply u_sub)
  | (with_reducible apply u_lt)
  | (with_reducible apply u_le)
  | (with_reducible apply u_gt)
  | (with_reducible apply u_ge)
  | (with_reducible apply u_eqI)
  | (with_reducible apply u_eqS)
  | (with_reducible apply u_neI)
  | (with_reducible apply u_int)
  | (with_reducible apply u_intB)
  | (with_reducible apply u_max)
  | (with_reducible apply u_min)
  | (with_reducible apply u_neg)
  | ((with_reducible apply u_mod); focus first | assumption | decide | omega)
  | ((with_reducible apply u_div); focus first | decide | omega | (constructor <;> first | assumption | omega))
  | ((with_reducible apply u_mul); focus first | exact Or.inl (by omega) | exact Or.inr (by omega) | exact Or.inl (by decide) | exact Or.inr (by decide))
  | ((with_reducible apply u_ixL); (focus (first | assumption | exact SqL.of (by assumption) | exact SqL.of upd_same)); exact rfl)
  | ((with_reducible apply u_lenL); focus (first | assumption | exact SqL.of (by assumption) | exact SqL.of upd_same))
  | ((with_reducible apply u_lenT); focus (first | assumption | exact SqT.of (by assumption) | exact SqT.of upd_same))
  | ((with_reducible apply u_setL); (focus (first | assumption | exact upd_same)); exact rfl)
  | (with_reducible apply rd_chain3)
  | (with_reducible apply rd_tru)
  | (with_reducible apply rd_truB)
  | ((with_reducible apply rd_truL); focus (first | assumption | exact SqL.of (by assumption) | exact SqL.of upd_same))
  | (with_reducible apply rd_bm)
  | (with_reducible apply rd_bm0)
  | ((with_reducible apply rd_tyL); focus (first | exact SqL.of (by assumption) | exact SqL.of upd_same))
  | (with_reducible apply u_min3)
  | (with_reducible apply rd_rev)
  | (with_reducible apply rd_iList)
  | (with_reducible apply rd_iTup)
  | (with_reducible apply rd_for)
  | (with_reducible apply rd_rng1)
  | (with_reducible apply rd_rng2)
  | ((with_reducible apply rd_rng1e); (focus omega); (focus omega))
  | ((with_reducible apply rd_rng2e); (focus omega))
  | (with_reducible apply rd_gcons)
  | (with_reducible apply rd_gnil)
  | (with_reducible apply rd_retN)
  | (with_reducible apply g_eqI)
  | (with_reducible apply g_eqS)
  | (with_reducible apply g_neI)
  | (with_reducible apply g_neS)
  | (with_reducible apply g_neB)
  | (with_reducible apply rd_xf)
  | (with_reducible apply rd_raiseE)
  | (with_reducible apply rd_callS)
  | (with_reducible apply u_inD)
  | (with_reducible apply u_notInD)
  | (with_reducible apply u_inS)
  | (with_reducible apply u_notInS)
  | (with_reducible apply rd_iSeq)
  | ((with_reducible apply rd_seqL); (focus first | assumption | exact SqL.of (by assumption) | exact SqL.of upd_same))
  | ((with_reducible apply rd_seqT); (focus first | assumption | exact SqT.of (by assumption) | exact SqT.of upd_same))
  | (with_reducible apply rd_istr)
  | (with_reducible apply rd_istrE)
  | ((with_reducible apply u_isi); (focus (first | exact Or.inl rfl | exact Or.inr (Or.inl rfl) | exact Or.inr (Or.inr (Or.inl rfl)) | exact Or.inr (Or.inr (Or.inr rfl)))); (focus first | assumption | exact Rp.int _ | exact Rp.str _))
  | ((with_reducible apply rd_itL); (focus first | assumption | exact SqL.of (by assumption) | exact SqL.of upd_same))
  | ((with_reducible apply rd_itT); (focus first | assumption | exact SqT.of (by assumption) | exact SqT.of upd_same))
  | (with_reducible apply rd_lc)
  | (with_reducible apply rd_yes)
  | ((with_reducible apply u_pow); (focus (exact ⟨by decide, by decide, by decide⟩)))
  | (with_reducible apply u_mul; focus exact Or.inr cm)
  | (with_reducible apply rd_par3)
  | (with_reducible apply rd_par3_end)
  | ((with_reducible apply rd_aug); exact rfl)
  | (with_reducible apply rd_ipI)
  | (with_reducible apply rd_enA)
  | (with_reducible apply rd_revR)
  | (with_reducible apply rd_rg1)
  | (with_reducible apply rd_rng3)
  | ((with_reducible apply u_enT); (focus first | assumption | exact SqT.of (by assumption) | exact SqT.of upd_same))
  | ((with_reducible apply u_enL); (focus first | assumption | exact SqL.of (by assumption) | exact SqL.of upd_same))
  | (with_reducible apply rd_zip)
  | (with_reducible apply rd_lc2)
  | ((with_reducible apply rd_gtup); (focus first | assumption | exact SqT.of (by assumption) | exact SqT.of upd_same); (focus rfl))
  | (with_reducible apply rd_dnew)
  | (with_reducible apply rd_din)
  | (with_reducible apply rd_dget)
  | (with_reducible apply rd_dput)
  | (with_reducible apply rd_disp1)
  | (with_reducible apply rd_sl)
  | (with_reducible apply rd_part)
  | (with_reducible apply rd_partI)
  | (with_reducible apply rd_nopart)
  | (with_reducible apply u_isB)
  | (with_reducible apply u_repB)
  | (with_reducible apply u_notB)
  | (with_reducible apply rd_dc)
  | (with_reducible apply rd_bmT)
  | (with_reducible apply rd_tupF)
  | ((with_reducible apply rd_tyF); (focus assumption))
  | (with_reducible apply iteT)
  | (with_reducible apply iteF))
local macro_rules | `(tactic| walk_at "go") => `(tactic| repeat (walk_at "st"))
local macro_rules | `(tactic| walk_at "sp") => `(tactic| (first | refine rd_split (fun c => ?_) (fun c => ?_) | refine rd_splitN (fun c => ?_) (fun c => ?_) | refine rd_splitB (fun c => ?_) (fun c => ?_)))
local macro_rules | `(tactic| walk_at "nx") => `(tactic| repeat (first | (with_reducible apply iteF) | (with_reducible apply iteT) | (with_reducible apply rd_next)))

section
variable {P : Program} {w : World} {K : PySem.W.Frag} {mg : Str → Option Value} {base : Heap}
theorem inV_ints (x : Int) : ∀ l : List Int, inV (.int x) (l.map V.int) = decide (x ∈ l) := by
  intro l
  unfold inV
  rw [List.any_map]
  induction l with
  | nil => rfl
  | cons a r ih =>
    rw [List.any_cons, ih]
    have e3 : eqV (V.int a) (V.int x) = decide (x = a) := by
      show (a == x) = _
      by_cases c : x = a
      · subst c; simp
      · rw [decide_eq_false c]
        exact beq_eq_false_iff_ne.mpr (fun h => c h.symm)
    show (eqV (V.int a) (V.int x) || decide (x ∈ r)) = _
    rw [e3]
    simp [List.mem_cons]
theorem flat_ints2 : ∀ l : List Int, (l.map V.int).all flatV = true
  | [] => rfl
  | _ :: r => by rw [List.map_cons, List.all_cons, flat_ints2 r] <;> rfl
/-- the first number of an order that may not come, as the law looks for it -/
def dueO (kin : Nat → List Nat) (n : Nat) : List Int → List Nat → Nat → Int
  | [], _, i => if i < n then (i : Int) else -1
  | x :: r, l, i => if mayL kin n l x then dueO kin n r (l ++ [x.toNat]) (i + 1) else (i : Int)
theorem dueO_cons {kin : Nat → List Nat} {n : Nat} {x : Int} {r : List Int} {l : List Nat} {i : Nat} : dueO kin n (x :: r) l i = if mayL kin n l x then dueO kin n r (l ++ [x.toNat]) (i + 1) else (i : Int) := rfl
theorem mayL_nat {kin : Nat → List Nat} {n : Nat} {l : List Nat} {x : Int} (h : mayL kin n l x = true) : ∃ m : Nat, x = m ∧ m < n ∧ m ∉ l := by
  simp only [mayL, Bool.and_eq_true, decide_eq_true_eq, Bool.not_eq_true', decide_eq_false_iff_not] at h
  exact ⟨x.toNat, by omega, by omega, h.1.2⟩
theorem due_is {kin : Nat → List Nat} {n : Nat} (hk : ∀ x, x < n → ∀ y ∈ kin x, y < n) : ∀ (is : List Int) (bs : List Bool) (l : List Nat), Made n bs l → ofB kin (is.map PyData.int) bs l.length = dueO kin n is l l.length
  | [], bs, l, h => by
    show (if bs.all id then -1 else (l.length : Int)) = if l.length < n then (l.length : Int) else -1
    rw [h.all]
    by_cases c : n ≤ l.length
    · rw [decide_eq_true c, if_pos rfl, if_neg (by omega)]
    · rw [decide_eq_false c, if_neg (by simp), if_pos (by omega)]
  | x :: r, bs, l, h => by
    rw [List.map_cons, ofB_cons, h.may hk x]
    show _ = if mayL kin n l x then dueO kin n r (l ++ [x.toNat]) (l.length + 1) else (l.length : Int)
    by_cases c : mayL kin n l x = true
    · rw [if_pos c, if_pos c]
      obtain ⟨m, rfl, h1, h2⟩ := mayL_nat c
      have := due_is hk r _ _ (h.next h1 h2)
      rw [List.length_append] at this
      simpa only [setD, Int.toNat_natCast, List.length_cons, List.length_nil, Nat.zero_add] using this
    · rw [if_neg c, if_neg c]
theorem u_ninT {K : PySem.W.Frag} {a : Addr} {x : V} {xs : List V} {H : Hp} {Q : VK} (s : SqT K H a xs) (fx : flatV x = true) (fxs : xs.all flatV = true) (h : Q (.bl (!inV x xs)) H) : rNotInU K x (.ref a) H Q := .inl ⟨a, xs, rfl, .inr s, fx, fxs, h⟩
theorem ints_layJ : ∀ ns : List Int, dats (ns.map PyData.int)
  | [] => trivial
  | n :: r => ⟨by simp only [dat], ints_layJ r⟩
def spFt (K : PySem.W.Frag) : Sp := fun vs H Q _ => ∃ (b po : Addr) (rows : List V) (us : List Int) (is : List Int), vs = [.ref b, .ref po] ∧ H b = some (.lst rows) ∧ Kns us rows H b us.length ∧ us.length ≤ 40 ∧ SqT K H po (is.map V.int) ∧ is.length ≤ 1000 ∧ ∀ H', Same H H' → Q (.int (dueO (kinN us) us.length is [] 0)) H'
abbrev s_law_fault : Stmt := top 74
theorem sc_law_fault : FnScope ["kin", "order", "k", "x", "y"] ["kin", "order"] (defScope s_law_fault) := ⟨rfl, rfl, rfl, by decide +kernel, rfl, by decide +kernel, by decide +kernel⟩
theorem has_law_fault (O : OwnF K mg "_law_fault" s_law_fault) (B : Bl mg) : HasF P w K mg base CX0 1 "_law_fault" ["kin", "order"] (spFt K) := by
  refine has0 O sc_law_fault (fun _ _ _ _ _ _ us hl => match us, hl with | [_, _], _ => rfl) (fun vs H Q E h => ?_) (fun f cdv A outer s_ H vs Q E hr h => ?_)
  · obtain ⟨b, po, rows, us, is, rfl, _⟩ := h
    rfl
  obtain ⟨b, po, rows, us, is, rfl, hb, hK, h40, hO, h1000, q⟩ := h
  have li : (is.map V.int).length = is.length := List.length_map _
  refine ⟨_, (pss_cons (ps_for PassesOwn.never rfl (pi_range1 (by rfl) B.range (pa_cons (pe_callB (kLen K) (by rfl) B.len (by decide +kernel) (pa_cons (pv 1) pa_nil)) pa_nil)) (pg_name (i := 2) sc_law_fault.nd rfl (by first | exact Or.inl rfl | exact Or.inr rfl)) (pss_cons (ps_set (i := 3) sc_law_fault.nd rfl (by first | exact Or.inl rfl | exact Or.inr rfl) (pe_ix (kIx K) (pv 1) (pv 2) (fun _ _ => rfl))) (pss_one (ps_if (PW.pt (pw_or (pt_cmpR ltU (pv 3) pe_int (nomark _)) (pw_or (pt_cmpR geU (pv 3) (pe_callB (kLen K) (by rfl) B.len (by decide +kernel) (pa_cons (pv 0) pa_nil)) (nomark _)) (pw_or (pt_cmpR (kIn K) (pv 3) (pe_slice (kSl K) (pv 1) po_none (po_some (pv 2))) (by rfl)) (pw_or1 (pt_cmpR (kNeG K (hU hr)) (pe_lc (own := [("y", 4)]) (g := gName 4) (tt := _) rfl sc_law_fault.nd (pi_listK K (pe_ix (kIx K) (pv 0) (pv 3) (fun _ _ => rfl))) (blkOk_by (own := [("y", 4)]) (N := ["kin", "order", "k", "x", "y"]) (sc := defScope s_law_fault) (by decide +kernel)) (fun _ _ _ _ _ => (pg_name (i := 4) sc_law_fault.nd rfl (by first | exact Or.inl rfl | exact Or.inr rfl))) (fun _ _ _ _ _ => (pts_one (pt_cmpR (kNotIn K) (pv 4) (pe_slice (kSl K) (pv 1) po_none (po_some (pv 2))) (by rfl)))) (fun _ _ _ _ _ => (pv 4))) (pe_lst pa_nil) (nomark _))))))) (pss_one (ps_ret (pv 2))) pss_nil)))) (pss_one (ps_ret (pe_ifExp (pt_cmpR ltU (pe_callB (kLen K) (by rfl) B.len (by decide +kernel) (pa_cons (pv 1) pa_nil)) (pe_callB (kLen K) (by rfl) B.len (by decide +kernel) (pa_cons (pv 0) pa_nil)) (nomark _)) (pe_callB (kLen K) (by rfl) B.len (by decide +kernel) (pa_cons (pv 1) pa_nil)) (pe_un un_neg pe_int))))), ?_⟩
  refine st0 [some (.ref b), some (.ref po), none, none, none] rfl ?_
  walk_at "go"
  rw [li]
  refine forR (fun k σ H' => ∃ (o2 o3 : Option V) (l : List Nat), σ = [some (.ref b), some (.ref po), o2, o3, none] ∧ Same H H' ∧ is.take k = l.map (fun (n : Nat) => (n : Int)) ∧ dueO (kinN us) us.length (is.drop k) l k = dueO (kinN us) us.length is [] 0) ⟨_, _, [], rfl, Same.refl H, rfl, rfl⟩ ?_ ?_
  · rintro k σ H' hk ⟨o2, o3, l, rfl, k1, k2, k3⟩
    have hk2 : k < is.length := by
      have hk3 : k < ((is.length : Nat) : Int).toNat := hk
      omega
    obtain ⟨x, hx⟩ : ∃ x, is[k]? = some x := ⟨_, List.getElem?_eq_getElem hk2⟩
    have hd : is.drop k = x :: is.drop (k + 1) := by
      rw [List.drop_eq_getElem_cons hk2]
      rw [List.getElem?_eq_getElem hk2, Option.some.injEq] at hx
      rw [hx]
    rw [hd] at k3
    walk_at "go"
    refine u_ixT (Ext.of_same k1 _ _ hO) (show atI (is.map V.int) (0 + (k : Int)) = some (.int x) by rw [Int.zero_add]; exact atI_nat (by rw [List.getElem?_map, hx] <;> rfl)) ?_
    have bad : mayL (kinN us) us.length l x = false → ∀ H', Same H H' → Q (.int (0 + (k : Int))) H' := fun hm H' s => by
      rw [Int.zero_add]
      have e := k3
      rw [dueO_cons, hm, if_neg (by simp)] at e
      rw [e]
      exact q H' s
    walk_at "go"
    by_cases c : x < 0
    · rw [decide_eq_true c]
      refine iteT ?_
      refine iteT ?_
      walk_at "go"
      refine bad ?_ _ k1
      unfold mayL
      rw [decide_eq_false (show ¬ 0 ≤ x by omega)] <;> rfl
    rw [decide_eq_false c]
    refine iteF ?_
    walk_at "go"
    refine u_lenL (SqL.of (k1 _ _ hb)) ?_
    rw [hK.1]
    walk_at "go"
    by_cases c2 : x ≥ (us.length : Int)
    · rw [decide_eq_true c2]
      refine iteT ?_
      refine iteT ?_
      walk_at "go"
      refine bad ?_ _ k1
      unfold mayL
      rw [decide_eq_false (show ¬ x < (us.length : Int) by omega), Bool.and_false] <;> rfl
    rw [decide_eq_false c2]
    refine iteF ?_
    obtain ⟨m, rfl⟩ : ∃ m : Nat, x = m := ⟨x.toNat, by omega⟩
    have hm : m < us.length := by omega
    have k1O := Ext.of_same (K := K) k1 _ _ hO
    have ecut : cutV (is.map V.int) none (some (0 + (k : Int))) = (is.take k).map V.int := by rw [Int.zero_add, cut_to, List.map_take]
    walk_at "go"
    refine u_slS k1O fun p1 H1 s1 hp1 => ?_
    rw [ecut] at hp1
    walk_at "go"
    refine u_inT hp1 rfl (flat_ints2 _) ?_
    rw [inV_ints, k2]
    have emem : decide ((m : Int) ∈ l.map (fun (n : Nat) => (n : Int))) = decide (m ∈ l) := by
      rw [Bool.eq_iff_iff, decide_eq_true_eq, decide_eq_true_eq, List.mem_map]
      exact ⟨fun ⟨y, h1, h2⟩ => by rw [show m = y by omega]; exact h1, fun h => ⟨m, h, rfl⟩⟩
    rw [emem]
    have k5 := k1.trans s1
    walk_at "go"
    by_cases c3 : m ∈ l
    · rw [decide_eq_true c3]
      refine iteT ?_
      refine iteT ?_
      walk_at "go"
      refine bad ?_ _ k5
      unfold mayL
      rw [Int.toNat_natCast, decide_eq_true c3, Bool.not_true, Bool.and_false] <;> rfl
    rw [decide_eq_false c3]
    refine iteF ?_
    obtain ⟨rk, hrk, hrk1, hrk2⟩ := hK.2 m hm
    have lkin : (kinN us m).length ≤ 40 := by
      unfold kinN
      exact Nat.le_trans (List.length_filter_le _ _) (by rw [List.length_range]; exact h40)
    walk_at "go"
    refine u_ixL (SqL.of (k5 _ _ hb)) (atI_nat hrk) ?_
    walk_at "go"
    refine rd_itL (SqL.of (k5 _ _ hrk2)) ?_
    intro D hD
    refine lc_list (xs := nV (kinN us m)) (fun n H' => H' D = some (.lst (nV (((kinN us m).take n).filter fun y => !decide (y ∈ l)))) ∧ Same H1 H') ⟨upd_same, Same.upd_new (Same.refl H1) hD⟩ ?_ ?_ ?_
    · rintro n H' hn ⟨g1, g2⟩
      exact SqL.of (g2 _ _ (k5 _ _ hrk2))
    · rintro n v H' hv ⟨g1, g2⟩
      unfold nV at hv
      rw [List.getElem?_map, Option.map_eq_some_iff] at hv
      obtain ⟨y, hy, rfl⟩ := hv
      have hn := lt_of_get hy
      have lf : (((kinN us m).take n).filter fun y => !decide (y ∈ l)).length ≤ n := by
        refine Nat.le_trans (List.length_filter_le _ _) ?_
        rw [List.length_take]
        omega
      walk_at "go"
      refine ⟨rfl, ?_⟩
      walk_at "go"
      refine u_slS (Ext.of_same (k5.trans g2) _ _ hO) fun p2 H2 s2 hp2 => ?_
      rw [ecut] at hp2
      walk_at "go"
      refine u_ninT hp2 rfl (flat_ints2 _) ?_
      rw [inV_ints, k2]
      have emem2 : decide ((y : Int) ∈ l.map (fun (n : Nat) => (n : Int))) = decide (y ∈ l) := by
        rw [Bool.eq_iff_iff, decide_eq_true_eq, decide_eq_true_eq, List.mem_map]
        exact ⟨fun ⟨y2, h1, h2⟩ => by rw [show y = y2 by omega]; exact h1, fun h => ⟨y, h, rfl⟩⟩
      rw [emem2]
      walk_at "go"
      have etk : ((kinN us m).take (n + 1)).filter (fun y => !decide (y ∈ l)) = ((kinN us m).take n).filter (fun y => !decide (y ∈ l)) ++ [y].filter (fun y => !decide (y ∈ l)) := by
        rw [List.take_add_one, hy, List.filter_append] <;> rfl
      by_cases cy : y ∈ l
      · rw [decide_eq_true cy, Bool.not_true]
        refine iteF ?_
        refine ⟨?_, g2.trans s2⟩
        rw [etk, List.filter_cons, decide_eq_true cy]
        simp only [Bool.not_true, List.filter_nil, if_false, List.append_nil, Bool.false_eq_true]
        exact s2 _ _ g1
      · rw [decide_eq_false cy, Bool.not_false]
        refine iteT ?_
        walk_at "go"
        refine ⟨_, s2 _ _ g1, ?_, ?_, Same.upd_new (g2.trans s2) hD⟩
        · rw [nV_len]
          exact ls (by omega)
        · rw [upd_same, etk, List.filter_cons, decide_eq_false cy, nV_app]
          rfl
    rintro H2 ⟨g1, g2⟩
    rw [nV_len, List.take_length] at g1
    walk_at "go"
    refine ⟨lk rfl, fun p3 hp3 => ?_⟩
    obtain ⟨fl, efl⟩ : ∃ fl, fl = (kinN us m).filter fun y => !decide (y ∈ l) := ⟨_, rfl⟩
    rw [← efl] at g1
    have nD3 : D ≠ p3 := ne_of_none g1 hp3
    have enV : nV fl = (fl.map fun (n : Nat) => (n : Int)).map V.int := by
      unfold nV
      rw [List.map_map] <;> rfl
    have hlay : PyData.canLay0 (.list ((fl.map fun (n : Nat) => (n : Int)).map PyData.int)) = true := by
      simp only [PyData.canLay0]
      exact dats_lay _ (ints_layJ _)
    refine g_neD (d := .list ((fl.map fun (n : Nat) => (n : Int)).map PyData.int)) (e := .list []) (.lst (SqL.of (by rw [upd_ne nD3]; exact g1)) (by rw [enV]; exact Rps.dp _ _ (Rps.ints _))) (.lst (SqL.of upd_same) .nil) hlay (by simp [PyData.canLay0, PyData.canLayAll0]) (by simp [PyData.depth, PyData.depthAll]) ?_
    rw [eqv_nil]
    have eem : ((fl.map fun (n : Nat) => (n : Int)).map PyData.int).isEmpty = (kinN us m).all fun y => decide (y ∈ l) := by
      rw [efl]
      have h1 : ∀ k : List Nat, (((k.filter fun y => !decide (y ∈ l)).map fun (n : Nat) => (n : Int)).map PyData.int).isEmpty = k.all fun y => decide (y ∈ l) := by
        intro k
        induction k with
        | nil => rfl
        | cons a r ih =>
          rw [List.filter_cons, List.all_cons]
          by_cases ca : a ∈ l
          · rw [decide_eq_true ca]
            simp only [Bool.not_true, Bool.false_eq_true, if_false, Bool.true_and]
            exact ih
          · rw [decide_eq_false ca]
            rfl
      exact h1 _
    rw [eem]
    have emy : mayL (kinN us) us.length l (m : Int) = (kinN us m).all fun y => decide (y ∈ l) := by
      unfold mayL
      rw [Int.toNat_natCast, decide_eq_false c3, decide_eq_true (show (0 : Int) ≤ (m : Int) by omega), decide_eq_true (show (m : Int) < (us.length : Int) by omega)]
      simp only [Bool.not_false, Bool.true_and, Bool.and_true]
    have k6 := (k5.trans g2).trans (same_new hp3 (.lst []))
    rw [← emy]
    cases hmay : mayL (kinN us) us.length l (m : Int) with
    | false =>
      refine ⟨true, rfl, ?_⟩
      refine iteT ?_
      walk_at "go"
      exact bad hmay _ k6
    | true =>
      refine ⟨false, rfl, ?_⟩
      refine iteF ?_
      walk_at "go"
      rw [dueO_cons, hmay, if_pos rfl, Int.toNat_natCast] at k3
      refine ⟨_, _, l ++ [m], rfl, k6, ?_, k3⟩
      rw [List.take_add_one, hx, k2, List.map_append] <;> rfl
  · rintro σ H' ⟨o2, o3, l, rfl, k1, k2, k3⟩
    have k4 : dueO (kinN us) us.length is [] 0 = if is.length < us.length then (is.length : Int) else -1 := by
      rw [← k3, show ((is.length : Nat) : Int).toNat = is.length by omega, List.drop_length] <;> rfl
    walk_at "go"
    refine u_lenT (Ext.of_same k1 _ _ hO) ?_
    rw [li]
    walk_at "go"
    refine u_lenL (SqL.of (k1 _ _ hb)) ?_
    rw [hK.1]
    walk_at "go"
    rw [k4] at q
    by_cases c : is.length < us.length
    · rw [if_pos c] at q
      rw [decide_eq_true (by omega)]
      refine iteT ?_
      walk_at "go"
      refine u_lenT (Ext.of_same k1 _ _ hO) ?_
      rw [li]
      exact q _ k1
    · rw [if_neg c] at q
      rw [decide_eq_false (by omega)]
      refine iteF ?_
      walk_at "go"
      exact q _ k1
end
end Mine

/-! ### JE -/
set_option maxHeartbeats 400000
namespace Mine
open PySem PySem.Spec L2
/-! ## orders -/
structure Vd (kin : Nat → List Nat) (n : Nat) (l : List Nat) : Prop where
  nd : l.Nodup
  lt : ∀ x ∈ l, x < n
  len : l.length = n
  pre : ∀ a x b, l = a ++ x :: b → ∀ y ∈ kin x, y ∈ a
theorem vd_due {kin : Nat → List Nat} {n : Nat} {l : List Nat} (h : Vd kin n l) : ∀ (r p : List Nat), l = p ++ r → dueO kin n (r.map fun (k : Nat) => (k : Int)) p p.length = -1
  | [], p, e => by
    rw [List.append_nil] at e
    rw [← e]
    show (if l.length < n then (l.length : Int) else -1) = -1
    rw [if_neg (by rw [h.len]; omega)]
  | x :: r, p, e => by
    have hx : x < n := h.lt x (by rw [e]; simp)
    have hn : x ∉ p := by
      have nd := h.nd
      rw [e, List.nodup_append] at nd
      exact fun hp => nd.2.2 x hp x List.mem_cons_self rfl
    have hm : mayL kin n p (x : Int) = true := by
      unfold mayL
      rw [Int.toNat_natCast, decide_eq_true (show (0 : Int) ≤ (x : Int) by omega), decide_eq_true (show (x : Int) < (n : Int) by omega), decide_eq_false hn]
      simp only [Bool.not_false, Bool.true_and, List.all_eq_true, decide_eq_true_eq]
      exact h.pre p x r e
    rw [List.map_cons, dueO_cons, if_pos hm, Int.toNat_natCast]
    have := vd_due h r (p ++ [x]) (by rw [e]; simp)
    rw [List.length_append] at this
    exact this
theorem vd_of {kin : Nat → List Nat} {n : Nat} {l : List Nat} (hk : ∀ x, x < n → ∀ y ∈ kin x, y < n) (h : Vd kin n l) : ofB kin ((l.map fun (k : Nat) => (k : Int)).map PyData.int) (List.replicate n false) 0 = -1 := by
  have := due_is hk (l.map fun (k : Nat) => (k : Int)) _ _ (Made.start n)
  rw [List.length_nil] at this
  rw [this]
  exact vd_due h l [] rfl
/-- where a number stands but once, what is ahead of it is one list -/
theorem split_uniq {x : Nat} : ∀ {a a' b b' : List Nat}, (a ++ x :: b).Nodup → a ++ x :: b = a' ++ x :: b' → a = a'
  | [], [], _, _, _, _ => rfl
  | [], c :: a', b, b', nd, e => by
    rw [List.nil_append, List.cons_append] at e
    injection e with e1 e2
    subst e1
    exfalso
    rw [List.nil_append, List.nodup_cons] at nd
    exact nd.1 (by rw [e2]; simp)
  | c :: a, [], b, b', nd, e => by
    rw [List.nil_append, List.cons_append] at e
    injection e with e1 e2
    subst e1
    exfalso
    rw [List.cons_append, List.nodup_cons] at nd
    exact nd.1 (by simp)
  | c :: a, d :: a', b, b', nd, e => by
    rw [List.cons_append, List.cons_append] at e
    injection e with e1 e2
    subst e1
    rw [List.cons_append, List.nodup_cons] at nd
    rw [split_uniq nd.2 e2]
theorem kin_in {j : Jn} {x y : Nat} {w : Jn} (h : j.all[x]? = some w) (hy : y ∈ kinN (j.ups (-1) 0) x) : x < y ∧ y < x + w.cnt := by
  obtain ⟨op, td, parts⟩ := w
  rw [kinN_tops h] at hy
  obtain ⟨i, hi⟩ := List.getElem?_of_mem hy
  have il := lt_of_get hi
  rw [tops_len] at il
  have e := tops_at hi
  have hc := cnt_pos parts[i]
  have el : Jn.cnts (parts.take (i + 1)) ≤ Jn.cnts parts := by
    have e : parts = parts.take (i + 1) ++ parts.drop (i + 1) := (List.take_append_drop _ _).symm
    have := congrArg Jn.cnts e
    rw [cnts_append] at this
    omega
  have ec : Jn.cnts (parts.take (i + 1)) = Jn.cnts (parts.take i) + parts[i].cnt := by
    rw [List.take_add_one, List.getElem?_eq_getElem il, cnts_append]
    simp [Jn.cnts]
  simp only [Jn.cnt]
  omega
/-- a branchwise order of the whole is an order -/
theorem bro_vd {j : Jn} {l : List Nat} (h : BrO j j 0 l) : Vd (kinN (j.ups (-1) 0)) j.cnt l := by
  have nd : l.Nodup := h.perm.nodup_iff.mpr List.nodup_range'
  refine ⟨nd, fun x hx => ?_, ?_, fun a x b e y hy => ?_⟩
  · have := h.perm.mem_iff.mp hx
    rw [List.mem_range'_1] at this
    omega
  · rw [h.perm.length_eq, List.length_range']
  · have hxl : x < j.cnt := by
      have := h.perm.mem_iff.mp (show x ∈ l by rw [e]; simp)
      rw [List.mem_range'_1] at this
      omega
    obtain ⟨w, hw⟩ : ∃ w, j.all[x]? = some w := ⟨_, List.getElem?_eq_getElem (by rw [all_cnt]; exact hxl)⟩
    obtain ⟨a', m, b', e', hp⟩ := h.seg x (by omega) (by omega) w hw
    have e2 : l = (a' ++ m) ++ x :: b' := by rw [e']; simp
    have ea : a = a' ++ m := by
      rw [e] at nd
      exact split_uniq nd (by rw [← e, e2])
    obtain ⟨k1, k2⟩ := kin_in hw hy
    have hm : y ∈ m ++ [x] := hp.mem_iff.mpr (by rw [List.mem_range'_1]; omega)
    rcases List.mem_append.mp hm with hm | hm
    · rw [ea]
      exact List.mem_append_right _ hm
    · have : y = x := by simpa using hm
      omega
end Mine

/-! ### JF -/
set_option maxHeartbeats 400000
namespace Mine
open PySem PySem.Spec L2
theorem Half.run {j : Jn} {parts : List Jn} {x : Nat} : ∀ (lf dn : List (Jn × Nat)) (rw_ : List Nat), Half j parts x dn lf rw_ → (∀ p ∈ lf, BrO j p.1 p.2 (Jn.post p.1 p.2)) → Half j parts x (dn ++ lf) [] (rw_ ++ lf.flatMap fun p => Jn.post p.1 p.2)
  | [], dn, rw_, h, _ => by simpa using h
  | p :: lf, dn, rw_, h, hp => by
    have h1 := h.next (i := 0) (p := p) (by simp) (hp p List.mem_cons_self)
    have h2 := Half.run lf (dn ++ [p]) (rw_ ++ Jn.post p.1 p.2) (by simpa using h1) fun q hq => hp q (List.mem_cons_of_mem _ hq)
    rw [List.flatMap_cons]
    simpa [List.append_assoc] using h2
/-- the order from the left is branchwise -/
theorem post_bro {j : Jn} : ∀ (n : Nat) (y : Jn) (x : Nat), y.cnt ≤ n → j.all[x]? = some y → BrO j y x (Jn.post y x)
  | 0, y, _, h, _ => by have := cnt_pos y; omega
  | n + 1, .mk op td parts, x, h, hx => by
    simp only [Jn.cnt] at h
    have h1 := Half.run (zt parts (x + 1)) [] [] (Half.start j parts x) fun p hp => by
      obtain ⟨i, i1, i2⟩ := zt_get hp
      obtain ⟨t, t1, t2, t3, t4⟩ := part_at hx i1
      rw [i2, Option.some.injEq] at t1
      rw [← t1] at t4
      have := cnts_mem (List.mem_of_getElem? i1)
      exact post_bro n p.1 p.2 (by omega) t4
    rw [List.nil_append, List.nil_append, ← posts_zt] at h1
    have h2 := h1.fin hx
    simp only [Jn.post]
    exact h2
/-! ## two neighbours exchanged -/
theorem swap_vd {kin : Nat → List Nat} {n u v : Nat} {a b : List Nat} (h : Vd kin n (a ++ u :: v :: b)) (hn : u ∉ kin v) : Vd kin n (a ++ v :: u :: b) := by
  have pm : (a ++ v :: u :: b).Perm (a ++ u :: v :: b) := List.Perm.append_left a (List.Perm.swap u v b)
  have nd : (a ++ v :: u :: b).Nodup := pm.nodup_iff.mpr h.nd
  refine ⟨nd, fun x hx => h.lt x (pm.mem_iff.mp hx), by rw [pm.length_eq, h.len], fun p x q e y hy => ?_⟩
  by_cases cv : x = v
  · subst cv
    have ep : a = p := split_uniq nd e
    have h1 := h.pre (a ++ [u]) x b (by simp) y hy
    rcases List.mem_append.mp h1 with h1 | h1
    · rw [← ep]; exact h1
    · have : y = u := by simpa using h1
      subst this
      exact absurd hy hn
  by_cases cu : x = u
  · subst cu
    have e2 : (a ++ [v]) ++ x :: b = p ++ x :: q := by rw [← e]; simp
    have ep : a ++ [v] = p := split_uniq (by rw [e2, ← e]; exact nd) e2
    have h1 := h.pre a x (v :: b) rfl y hy
    rw [← ep]
    exact List.mem_append_left _ h1
  · -- x stands in a or in b
    have hx : x ∈ a ++ v :: u :: b := by rw [e]; simp
    rcases List.mem_append.mp hx with ha | hb
    · obtain ⟨a1, a2, rfl⟩ := List.append_of_mem ha
      have e2 : a1 ++ x :: (a2 ++ v :: u :: b) = p ++ x :: q := by rw [← e]; simp
      have ep : a1 = p := split_uniq (by rw [e2, ← e]; exact nd) e2
      have h1 := h.pre a1 x (a2 ++ u :: v :: b) (by simp) y hy
      rw [← ep]
      exact h1
    · have hb2 : x ∈ b := by
        simp only [List.mem_cons] at hb
        rcases hb with hb | hb | hb
        · exact absurd hb cv
        · exact absurd hb cu
        · exact hb
      obtain ⟨b1, b2, rfl⟩ := List.append_of_mem hb2
      have e2 : (a ++ v :: u :: b1) ++ x :: b2 = p ++ x :: q := by rw [← e]; simp
      have ep : a ++ v :: u :: b1 = p := split_uniq (by rw [e2, ← e]; exact nd) e2
      have h1 := h.pre (a ++ u :: v :: b1) x b2 (by simp) y hy
      rw [← ep]
      have pm2 : (a ++ v :: u :: b1).Perm (a ++ u :: v :: b1) := List.Perm.append_left a (List.Perm.swap u v b1)
      exact pm2.mem_iff.mpr h1
end Mine

/-! ### JG -/
namespace Mine
open PySem PySem.Spec L2
local macro_rules | `(tactic| walk_at "st") => `(tactic| first
  | ((with_reducible apply rd_var); exact rfl)
  | (with_reducible apply rd_c)
  | (with_reducible apply rd_seq)
  | (with_reducible apply rd_asg)
  | (with_reducible apply rd_gname)
  | (with_reducible apply rd_op)
  | (with_reducible apply rd_cb)
  | (with_reducible apply rd_cons)
  | (with_reducible apply rd_nil)
  | (with_reducible apply rd_if)
  | (with_reducible apply rd_test)
  | (with_reducible apply rd_bl)
  | (with_reducible apply rd_retE)
  | (with_reducible apply rd_ret)
  | (with_reducible apply rd_call)
  | (with_reducible apply rd_tup)
  | (with_reducible apply rd_lst)
  | (with_reducible apply rd_drop)
  | (with_reducible apply rd_next)
  | (with_reducible apply rd_ife)
  | (with_reducible apply rd_gsub)
  | (with_reducible apply rd_par)
  | (with_reducible apply rd_par_end)
  | (with_reducible apply rd_un)
  | (with_reducible apply rd_and)
  | (with_reducible apply rd_or)
  | (with_reducible apply rd_not)
  | (with_reducible apply rd_andV)
  | (with_reducible apply rd_orV)
  | (with_reducible apply rd_notV)
  | (with_reducible apply rd_chain)
  | (with_reducible apply rd_tB)
  | (with_reducible apply rd_brk)
  | (with_reducible apply rd_ct)
  | (with_reducible apply u_add)
  | (with_reducible apply u_sub)
  | (with_reducible apply u_lt)
  | (with_reducible apply u_le)
  | (with_reducible apply u_gt)
  | (with_reducible apply u_ge)
  | (with_reducible apply u_eqI)
  | (with_reducible apply u_eqS)
  | (with_reducible apply u_neI)
  | (with_reducible apply u_int)
  | (with_reducible apply u_intB)
  | (with_reducible apply u_max)
  | (with_reducible apply u_min)
  | (with_reducible apply u_neg)
  | ((with_reducible apply u_mod); focus first | assumption | decide | omega)
  | ((with_reducible apply u_div); focus first | decide | omega | (constructor <;> first | assumption | omega))
  | ((with_reducible apply u_mul); focus first | exact Or.inl (by omega) | exact Or.inr (by omega) | exact Or.inl (by decide) | exact Or.inr (by decide))
  | ((with_reducible apply u_ixL); (focus (first | assumption | exact SqL.of (by assumption) | exact SqL.of upd_same)); exact rfl)
  | ((with_reducible apply u_lenL); focus (first | assumption | exact SqL.of (by assumption) | exact SqL.of upd_same))
  | ((with_reducible apply u_lenT); focus (first | assumption | exact SqT.of (by assumption) | exact SqT.of upd_same))
  | ((with_reducible apply u_setL); (focus (first | assumption | exact upd_same)); exact rfl)
  | (with_reducible apply rd_chain3)
  | (with_reducible apply rd_tru)
  | (with_reducible apply rd_truB)
  | ((with_reducible apply rd_truL); focus (first | assumption | exact SqL.of (by assumption) | exact SqL.of upd_same))
  | (with_reducible apply rd_bm)
  | (with_reducible apply rd_bm0)
  | ((with_reducible apply rd_tyL); focus (first | exact SqL.of (by assumption) | exact SqL.of upd_same))
  | (with_reducible apply u_min3)
  | (with_reducible apply rd_rev)
  | (with_reducible apply rd_iList)
  | (with_reducible apply rd_iTup)
  | (with_reducible apply rd_for)
  | (with_reducible apply rd_rng1)
  | (with_reducible apply rd_rng2)
  | ((with_reducible apply rd_rng1e); (focus omega); (focus omega))
  | ((with_reducible apply rd_rng2e); (focus omega))
  | (with_reducible apply rd_gcons)
  | (with_reducible apply rd_gnil)
  | (with_reducible apply rd_retN)
  | (with_reducible apply g_eqI)
  | (with_reducible apply g_eqS)
  | (with_reducible apply g_neI)
  | (with_reducible apply g_neS)
  | (with_reducible apply g_neB)
  | (with_reducible apply rd_xf)
  | (with_reducible apply rd_raiseE)
  | (with_reducible apply rd_callS)
  | (with_reducible apply u_inD)
  | (with_reducible apply u_notInD)
  | (with_reducible apply u_inS)
  | (with_reducible apply u_notInS)
  | (with_reducible apply rd_iSeq)
  | ((with_reducible apply rd_seqL); (focus first | assumption | exact SqL.of (by assumption) | exact SqL.of upd_same))
  | ((with_reducible apply rd_seqT); (focus first | assumption | exact SqT.of (by assumption) | exact SqT.of upd_same))
  | (with_reducible apply rd_istr)
  | (with_reducible apply rd_istrE)
  | ((with_reducible apply u_isi); (focus (first | exact Or.inl rfl | exact Or.inr (Or.inl rfl) | exact Or.inr (Or.inr (Or.inl rfl)) | exact Or.inr (Or.inr (Or.inr rfl)))); (focus first | assumption | exact Rp.int _ | exact Rp.str _))
  | ((with_reducible apply rd_itL); (focus first | assumption | exact SqL.of (by assumption) | exact SqL.of upd_same))
  | ((with_reducible apply rd_itT); (focus first | assumption | exact SqT.of (by assumption) | exact SqT.of upd_same))
  | (with_reducible apply rd_lc)
  | (with_reducible apply rd_yes)
  | ((with_reducible apply u_pow); (focus (exact ⟨by decide, by decide, by decide⟩)))
  | (with_reducible apply u_mul; focus exact Or.inr cm)
  | (with_reducible apply rd_par3)
  | (with_reducible apply rd_par3_end)
  | ((with_reducible apply rd_aug); exact rfl)
  | (with_reducible apply rd_ipI)
  | (with_reducible apply rd_enA)
  | (with_reducible apply rd_revR)
  | (with_reducible apply rd_rg1)
  | (with_reducible apply rd_rng3)
  | ((with_reducible apply u_enT); (focus first | assumption | exact SqT.of (by assumption) | exact SqT.of upd_same))
  | ((with_reducible apply u_enL); (focus first | assumption | exact SqL.of (by assumption) | exact SqL.of upd_same))
  | (with_reducible apply rd_zip)
  | (with_reducible apply rd_lc2)
  | ((with_reducible apply rd_gtup); (focus first | assumption | exact SqT.of (by assumption) | exact SqT.of upd_same); (focus rfl))
  | (with_reducible apply rd_dnew)
  | (with_reducible apply rd_din)
  | (with_reducible apply rd_dget)
  | (with_reducible apply rd_dput)
  | (with_reducible apply rd_disp1)
  | (with_reducible apply rd_sl)
  | (with_reducible apply rd_part)
  | (with_reducible apply rd_partI)
  | (with_reducible apply rd_nopart)
  | (with_reducible apply u_isB)
  | (with_reducible apply u_repB)
  | (with_reducible apply u_notB)
  | (with_reducible apply rd_dc)
  | (with_reducible apply rd_bmT)
  | (with_reducible apply rd_tupF)
  | ((with_reducible apply rd_tyF); (focus assumption))
  | (with_reducible apply iteT)
  | (with_reducible apply iteF))
local macro_rules | `(tactic| walk_at "go") => `(tactic| repeat (walk_at "st"))
local macro_rules | `(tactic| walk_at "sp") => `(tactic| (first | refine rd_split (fun c => ?_) (fun c => ?_) | refine rd_splitN (fun c => ?_) (fun c => ?_) | refine rd_splitB (fun c => ?_) (fun c => ?_)))
local macro_rules | `(tactic| walk_at "nx") => `(tactic| repeat (first | (with_reducible apply iteF) | (with_reducible apply iteT) | (with_reducible apply rd_next)))

section
variable {P : Program} {w : World} {K : PySem.W.Frag} {mg : Str → Option Value} {base : Heap}
theorem nV_ints (l : List Nat) : nV l = (l.map fun (k : Nat) => (k : Int)).map V.int := by
  unfold nV
  rw [List.map_map] <;> rfl
theorem nV_get {l : List Nat} {i n : Nat} (h : l[i]? = some n) : (nV l)[i]? = some (V.int (n : Int)) := by
  unfold nV
  rw [List.getElem?_map, h] <;> rfl
theorem two_split {l : List Nat} {i u v : Nat} (h1 : l[i]? = some u) (h2 : l[i + 1]? = some v) : l = l.take i ++ u :: v :: l.drop (i + 2) := by
  have i1 := lt_of_get h2
  have e1 : l.drop i = u :: l.drop (i + 1) := by
    rw [List.drop_eq_getElem_cons (by omega)]
    rw [List.getElem?_eq_getElem (by omega), Option.some.injEq] at h1
    rw [h1]
  have e2 : l.drop (i + 1) = v :: l.drop (i + 2) := by
    rw [List.drop_eq_getElem_cons i1]
    rw [List.getElem?_eq_getElem i1, Option.some.injEq] at h2
    rw [h2]
  conv => lhs; rw [← List.take_append_drop i l]
  rw [e1, e2]
theorem Src.neF {H : Hp} {a p : Addr} {xs : List V} (h : Src H a) (f : HE.FT H p xs) : p ≠ a := by
  obtain ⟨b, t, e, _⟩ := h
  obtain ⟨o, e2, _⟩ := f
  intro z
  rw [z, e] at e2
  cases e2
def spNb (K : PySem.W.Frag) : Sp := fun vs H Q _ => ∃ (a b po : Addr) (rows : List V) (us : List Int) (l : List Nat), vs = [.ref a, .ref b, .ref po] ∧ Src H a ∧ b ≠ a ∧ H b = some (.lst rows) ∧ Kns us rows H b us.length ∧ (∀ (x : Nat) (r : Addr), rows[x]? = some (.ref r) → r ≠ a) ∧ us.length ≤ 40 ∧ HE.FT H po (nV l) ∧ Vd (kinN us) us.length l ∧
  ∀ (H' : Hp) (q : Addr) (l' : List Nat), SB a H H' → Src H' a → HE.FT H' q (nV l') → Vd (kinN us) us.length l' → Q (.ref q) H'
abbrev s_law_neighbours : Stmt := top 73
theorem sc_law_neighbours : FnScope ["source", "kin", "order", "at"] ["source", "kin", "order"] (defScope s_law_neighbours) := ⟨rfl, rfl, rfl, by decide +kernel, rfl, by decide +kernel, by decide +kernel⟩
theorem has_neighbours (O : OwnF K mg "_law_neighbours" s_law_neighbours) (B : Bl mg) (h_law_take : HasF P w K mg base CX0 1 "_law_take" ["source", "top"] spTake) : HasF P w K mg base CX0 2 "_law_neighbours" ["source", "kin", "order"] (spNb K) := by
  refine has0 O sc_law_neighbours (fun _ _ _ _ _ _ us hl => match us, hl with | [_, _, _], _ => rfl) (fun vs H Q E h => ?_) (fun f cdv A outer s_ H vs Q E hr h => ?_)
  · obtain ⟨a, b, po, rows, us, l, rfl, _⟩ := h
    rfl
  obtain ⟨a, b, po, rows, us, l, rfl, hS, hba, hb, hK, hra, h40, hF, hV, q⟩ := h
  have hO : SqT K H po (nV l) := hF.sq
  have ll' : l.length ≤ 40 := by rw [hV.len]; exact h40
  refine ⟨_, (pss_cons (ps_if (pt_cmpR ltU (pe_callB (kLen K) (by rfl) B.len (by decide +kernel) (pa_cons (pv 2) pa_nil)) pe_int (nomark _)) (pss_one (ps_ret (pv 2))) pss_nil) (pss_cons (ps_set (i := 3) sc_law_neighbours.nd rfl (by first | exact Or.inl rfl | exact Or.inr rfl) (pe_callH h_law_take (hr.mono (by first | decide | omega)) (by rfl) pass0 (pa_cons (pv 0) (pa_cons (pe_op subU (pe_callB (kLen K) (by rfl) B.len (by decide +kernel) (pa_cons (pv 2) pa_nil)) pe_int) pa_nil)))) (pss_cons (ps_if (pt_cmpR (kIn K) (pe_ix (kIx K) (pv 2) (pv 3) (fun _ _ => rfl)) (pe_ix (kIx K) (pv 1) (pe_ix (kIx K) (pv 2) (pe_op (kAdd K) (pv 3) pe_int) (fun _ _ => rfl)) (fun _ _ => rfl)) (by rfl)) (pss_one (ps_ret (pv 2))) pss_nil) (pss_one (ps_ret (pe_op (kCatF K) (pe_op (kCatF K) (pe_slice (kSl K) (pv 2) po_none (po_some (pv 3))) (HE.pe_tupF (pa_cons (pe_ix (kIx K) (pv 2) (pe_op (kAdd K) (pv 3) pe_int) (fun _ _ => rfl)) (pa_cons (pe_ix (kIx K) (pv 2) (pv 3) (fun _ _ => rfl)) pa_nil)))) (pe_slice (kSl K) (pv 2) (po_some (pe_op (kAdd K) (pv 3) pe_int)) po_none))))))), ?_⟩
  refine st0 [some (.ref a), some (.ref b), some (.ref po), none] rfl ?_
  walk_at "go"
  rw [nV_len]
  refine rd_split (fun c => ?_) (fun c => ?_)
  · walk_at "go"
    exact q H po l SB.refl hS hF hV
  walk_at "go"
  rw [nV_len]
  refine use_take hS (by omega) (by omega) fun H1 i s1 hS1 i0 i1 => ?_
  obtain ⟨i, rfl⟩ : ∃ n : Nat, i = n := ⟨i.toNat, by omega⟩
  obtain ⟨u, hu⟩ : ∃ u, l[i]? = some u := ⟨_, List.getElem?_eq_getElem (by omega)⟩
  obtain ⟨v, hv⟩ : ∃ v, l[i + 1]? = some v := ⟨_, List.getElem?_eq_getElem (by omega)⟩
  have hF1 := FT.sb hF s1 (hS.neF hF)
  have hO1 : SqT K H1 po (nV l) := hF1.sq
  have hvl := hV.lt v (List.mem_of_getElem? hv)
  have hK1 := hK.sb hra s1
  obtain ⟨rk, hrk, hrk1, hrk2⟩ := hK1.2 v hvl
  walk_at "go"
  refine u_ixT hO1 (atI_nat (nV_get hu)) ?_
  walk_at "go"
  refine u_ixT hO1 (show atI (nV l) ((i : Int) + 1) = some (.int (v : Int)) from atI_nat (j := i + 1) (nV_get hv)) ?_
  walk_at "go"
  refine u_ixL (SqL.of (s1 _ _ hba hb)) (atI_nat hrk) ?_
  walk_at "go"
  refine u_inL (SqL.of hrk2) rfl (by rw [nV_ints]; exact flat_ints2 _) ?_
  have em : inV (.int (u : Int)) (nV (kinN us v)) = decide (u ∈ kinN us v) := by
    rw [nV_ints, inV_ints, Bool.eq_iff_iff, decide_eq_true_eq, decide_eq_true_eq, List.mem_map]
    exact ⟨fun ⟨y, h1, h2⟩ => by rw [show u = y by omega]; exact h1, fun h => ⟨u, h, rfl⟩⟩
  rw [em]
  walk_at "go"
  refine rd_split (fun c2 => ?_) (fun c2 => ?_)
  · walk_at "go"
    exact q H1 po l s1 hS1 hF1 hV
  have esp := two_split hu hv
  have hV2 : Vd (kinN us) us.length (l.take i ++ v :: u :: l.drop (i + 2)) := by
    rw [esp] at hV
    exact swap_vd hV c2
  walk_at "go"
  refine u_slS hO1 fun p1 H2 s2 hp1 => ?_
  rw [cut_to] at hp1
  have hO2 := Ext.of_same (K := K) s2 _ _ hO1
  walk_at "go"
  refine u_ixT hO2 (show atI (nV l) ((i : Int) + 1) = some (.int (v : Int)) from atI_nat (j := i + 1) (nV_get hv)) ?_
  walk_at "go"
  refine u_ixT hO2 (atI_nat (nV_get hu)) ?_
  walk_at "go"
  refine ⟨lk rfl, fun p2 ob hp2 hob => ?_⟩
  have s3 := same_new hp2 (.frz ob (.tup [V.int (v : Int), .int (u : Int)]))
  have t2 : HE.FT (upd H2 p2 (.frz ob (.tup [V.int (v : Int), .int (u : Int)]))) p2 [.int (v : Int), .int (u : Int)] := FTmk hob
  have hp12 := Ext.of_same (K := K) s3 _ _ hp1
  generalize upd H2 p2 (.frz ob (.tup [V.int (v : Int), .int (u : Int)])) = H3 at *
  walk_at "go"
  refine u_catF hp12 t2 (by simp) ?_ fun p3 H4 s4 hp3 => ?_
  · rw [List.length_take, nV_len]
    exact ll (by show _ + 2 ≤ _; omega)
  walk_at "go"
  refine u_slS (Ext.of_same ((s2.trans s3).trans s4) _ _ hO1) fun p4 H5 s5 hp4 => ?_
  rw [show ((i : Int) + 2) = ((i + 2 : Nat) : Int) by omega, cut_from] at hp4
  walk_at "go"
  refine u_catG (FT.same hp3 s5) hp4 (by simp) ?_ fun p5 H6 s6 hp5 => ?_
  · rw [List.length_append, List.length_take, List.length_drop, nV_len]
    exact ll (by show _ + 2 + _ ≤ _; omega)
  have sall := (((s2.trans s3).trans s4).trans s5).trans s6
  have e5 : List.take i (nV l) ++ [V.int (v : Int), .int (u : Int)] ++ List.drop (i + 2) (nV l) = nV (l.take i ++ v :: u :: l.drop (i + 2)) := by
    unfold nV
    rw [List.map_append, List.map_take, List.map_cons, List.map_cons, List.map_drop]
    simp
  rw [e5] at hp5
  exact q H6 p5 _ (s1.trans (SB.of_same sall)) (hS1.same sall) hp5 hV2
end
end Mine

/-! ### JH -/
set_option maxHeartbeats 400000
namespace Mine
open PySem PySem.Spec L2
/-! ## how many stand in a bough -/
theorem sum_from {f : Nat → Nat} {i : Nat} : ∀ {l : List Nat}, l.Nodup → ((l.filter fun y => decide (i ≤ y)).map f).sum = ((l.filter fun y => decide (i + 1 ≤ y)).map f).sum + if i ∈ l then f i else 0
  | [], _ => by simp
  | a :: r, nd => by
    have nd2 := List.nodup_cons.mp nd
    have ih := sum_from (f := f) (i := i) nd2.2
    rw [List.filter_cons, List.filter_cons]
    by_cases c : a = i
    · subst c
      rw [if_neg nd2.1] at ih
      rw [if_pos (by simp), if_neg (by simp), if_pos (by simp), List.map_cons, List.sum_cons]
      omega
    · have em : (i ∈ a :: r) ↔ i ∈ r := by simp [Ne.symm c]
      by_cases c2 : i ≤ a
      · rw [if_pos (by simpa using c2), if_pos (by simp; omega), List.map_cons, List.map_cons, List.sum_cons, List.sum_cons, ih]
        simp only [em]
        omega
      · rw [if_neg (by simpa using c2), if_neg (by simp; omega), ih]
        simp only [em]
def cntN (j : Jn) (y : Nat) : Nat := (j.all.map Jn.cnt).getD y 0
def sumK (j : Jn) (x i : Nat) : Nat := (((kinN (j.ups (-1) 0) x).filter fun y => decide (i ≤ y)).map (cntN j)).sum
theorem kinN_nd (us : List Int) (x : Nat) : (kinN us x).Nodup := by
  unfold kinN
  exact List.nodup_range.filter _
theorem sumK_step (j : Jn) (x i : Nat) : sumK j x i = sumK j x (i + 1) + if i ∈ kinN (j.ups (-1) 0) x then cntN j i else 0 := sum_from (kinN_nd _ _)
theorem sumK_end (j : Jn) (x : Nat) : sumK j x j.cnt = 0 := by
  unfold sumK
  have e : ((kinN (j.ups (-1) 0) x).filter fun y => decide (j.cnt ≤ y)) = [] := by
    rw [List.filter_eq_nil_iff]
    intro y hy
    unfold kinN at hy
    rw [List.mem_filter, List.mem_range, ups_len] at hy
    simp
    omega
  rw [e]
  rfl
theorem cntN_at {j w : Jn} {x : Nat} (h : j.all[x]? = some w) : cntN j x = w.cnt := by
  unfold cntN
  rw [List.getD_eq_getElem?_getD, List.getElem?_map, h] <;> rfl
theorem sum_tops {j : Jn} : ∀ (l : List Jn) (n : Nat), (∀ (i : Nat) p t, l[i]? = some p → (tops n l)[i]? = some t → j.all[t]? = some p) → ((tops n l).map (cntN j)).sum = Jn.cnts l
  | [], n, _ => by simp [tops, Jn.cnts]
  | p :: r, n, h => by
    have h0 := h 0 p n rfl rfl
    have h1 := sum_tops r (n + p.cnt) fun i q t hq ht => h (i + 1) q t (by simpa using hq) (by simpa only [tops, List.getElem?_cons_succ] using ht)
    simp only [tops, List.map_cons, List.sum_cons, Jn.cnts]
    rw [cntN_at h0, h1]
/-- all parts met: the whole bough -/
theorem sumK_all {j w : Jn} {x i : Nat} (h : j.all[x]? = some w) (hi : i ≤ x + 1) : 1 + sumK j x i = w.cnt := by
  obtain ⟨op, td, parts⟩ := w
  have e : ((kinN (j.ups (-1) 0) x).filter fun y => decide (i ≤ y)) = kinN (j.ups (-1) 0) x := by
    rw [List.filter_eq_self]
    intro y hy
    have := kin_in h hy
    simp
    omega
  unfold sumK
  rw [e, kinN_tops h, sum_tops parts (x + 1) fun i' p t hp ht => ?_]
  · simp only [Jn.cnt]
  · obtain ⟨t2, t21, _, _, t24⟩ := part_at h hp
    rw [ht, Option.some.injEq] at t21
    rw [t21]
    exact t24
end Mine

/-! ### JI -/
namespace Mine
open PySem PySem.Spec L2
local macro_rules | `(tactic| walk_at "st") => `(tactic| first
  | ((with_reducible apply rd_var); exact rfl)
  | (with_reducible apply rd_c)
  | (with_reducible apply rd_seq)
  | (with_reducible apply rd_asg)
  | (with_reducible apply rd_gname)
  | (with_reducible apply rd_op)
  | (with_reducible apply rd_cb)
  | (with_reducible apply rd_cons)
  | (with_reducible apply rd_nil)
  | (with_reducible apply rd_if)
  | (with_reducible apply rd_test)
  | (with_reducible apply rd_bl)
  | (with_reducible apply rd_retE)
  | (with_reducible apply rd_ret)
  | (with_reducible apply rd_call)
  | (with_reducible apply rd_tup)
  | (with_reducible apply rd_lst)
  | (with_reducible apply rd_drop)
  | (with_reducible apply rd_next)
  | (with_reducible apply rd_ife)
  | (with_reducible apply rd_gsub)
  | (with_reducible apply rd_par)
  | (with_reducible apply rd_par_end)
  | (with_reducible apply rd_un)
  | (with_reducible apply rd_and)
  | (with_reducible apply rd_or)
  | (with_reducible apply rd_not)
  | (with_reducible apply rd_andV)
  | (with_reducible apply rd_orV)
  | (with_reducible apply rd_notV)
  | (with_reducible apply rd_chain)
  | (with_reducible apply rd_tB)
  | (with_reducible apply rd_brk)
  | (with_reducible apply rd_ct)
  | (with_reducible apply u_add)
  | (with_reducible apply u_sub)
  | (with_reducible apply u_lt)
  | (with_reducible apply u_le)
  | (with_reducible apply u_gt)
  | (with_reducible apply u_ge)
  | (with_reducible apply u_eqI)
  | (with_reducible apply u_eqS)
  | (with_reducible apply u_neI)
  | (with_reducible apply u_int)
  | (with_reducible apply u_intB)
  | (with_reducible apply u_max)
  | (with_reducible apply u_min)
  | (with_reducible apply u_neg)
  | ((with_reducible apply u_mod); focus first | assumption | decide | omega)
  | ((with_reducible apply u_div); focus first | decide | omega | (constructor <;> first | assumption | omega))
  | ((with_reducible apply u_mul); focus first | exact Or.inl (by omega) | exact Or.inr (by omega) | exact Or.inl (by decide) | exact Or.inr (by decide))
  | ((with_reducible apply u_ixL); (focus (first | assumption | exact SqL.of (by assumption) | exact SqL.of upd_same)); exact rfl)
  | ((with_reducible apply u_lenL); focus (first | assumption | exact SqL.of (by assumption) | exact SqL.of upd_same))
  | ((with_reducible apply u_lenT); focus (first | assumption | exact SqT.of (by assumption) | exact SqT.of upd_same))
  | ((with_reducible apply u_setL); (focus (first | assumption | exact upd_same)); exact rfl)
  | (with_reducible apply rd_chain3)
  | (with_reducible apply rd_tru)
  | (with_reducible apply rd_truB)
  | ((with_reducible apply rd_truL); focus (first | assumption | exact SqL.of (by assumption) | exact SqL.of upd_same))
  | (with_reducible apply rd_bm)
  | (with_reducible apply rd_bm0)
  | ((with_reducible apply rd_tyL); focus (first | exact SqL.of (by assumption) | exact SqL.of upd_same))
  | (with_reducible apply u_min3)
  | (with_reducible apply rd_rev)
  | (with_reducible apply rd_iList)
  | (with_reducible apply rd_iTup)
  | (with_reducible apply rd_for)
  | (with_reducible apply rd_rng1)
  | (with_reducible apply rd_rng2)
  | ((with_reducible apply rd_rng1e); (focus omega); (focus omega))
  | ((with_reducible apply rd_rng2e); (focus omega))
  | (with_reducible apply rd_gcons)
  | (with_reducible apply rd_gnil)
  | (with_reducible apply rd_retN)
  | (with_reducible apply g_eqI)
  | (with_reducible apply g_eqS)
  | (with_reducible apply g_neI)
  | (with_reducible apply g_neS)
  | (with_reducible apply g_neB)
  | (with_reducible apply rd_xf)
  | (with_reducible apply rd_raiseE)
  | (with_reducible apply rd_callS)
  | (with_reducible apply u_inD)
  | (with_reducible apply u_notInD)
  | (with_reducible apply u_inS)
  | (with_reducible apply u_notInS)
  | (with_reducible apply rd_iSeq)
  | ((with_reducible apply rd_seqL); (focus first | assumption | exact SqL.of (by assumption) | exact SqL.of upd_same))
  | ((with_reducible apply rd_seqT); (focus first | assumption | exact SqT.of (by assumption) | exact SqT.of upd_same))
  | (with_reducible apply rd_istr)
  | (with_reducible apply rd_istrE)
  | ((with_reducible apply u_isi); (focus (first | exact Or.inl rfl | exact Or.inr (Or.inl rfl) | exact Or.inr (Or.inr (Or.inl rfl)) | exact Or.inr (Or.inr (Or.inr rfl)))); (focus first | assumption | exact Rp.int _ | exact Rp.str _))
  | ((with_reducible apply rd_itL); (focus first | assumption | exact SqL.of (by assumption) | exact SqL.of upd_same))
  | ((with_reducible apply rd_itT); (focus first | assumption | exact SqT.of (by assumption) | exact SqT.of upd_same))
  | (with_reducible apply rd_lc)
  | (with_reducible apply rd_yes)
  | ((with_reducible apply u_pow); (focus (exact ⟨by decide, by decide, by decide⟩)))
  | (with_reducible apply u_mul; focus exact Or.inr cm)
  | (with_reducible apply rd_par3)
  | (with_reducible apply rd_par3_end)
  | ((with_reducible apply rd_aug); exact rfl)
  | (with_reducible apply rd_ipI)
  | (with_reducible apply rd_enA)
  | (with_reducible apply rd_revR)
  | (with_reducible apply rd_rg1)
  | (with_reducible apply rd_rng3)
  | ((with_reducible apply u_enT); (focus first | assumption | exact SqT.of (by assumption) | exact SqT.of upd_same))
  | ((with_reducible apply u_enL); (focus first | assumption | exact SqL.of (by assumption) | exact SqL.of upd_same))
  | (with_reducible apply rd_zip)
  | (with_reducible apply rd_lc2)
  | ((with_reducible apply rd_gtup); (focus first | assumption | exact SqT.of (by assumption) | exact SqT.of upd_same); (focus rfl))
  | (with_reducible apply rd_dnew)
  | (with_reducible apply rd_din)
  | (with_reducible apply rd_dget)
  | (with_reducible apply rd_dput)
  | (with_reducible apply rd_disp1)
  | (with_reducible apply rd_sl)
  | (with_reducible apply rd_part)
  | (with_reducible apply rd_partI)
  | (with_reducible apply rd_nopart)
  | (with_reducible apply u_isB)
  | (with_reducible apply u_repB)
  | (with_reducible apply u_notB)
  | (with_reducible apply rd_dc)
  | (with_reducible apply rd_bmT)
  | (with_reducible apply rd_tupF)
  | ((with_reducible apply rd_tyF); (focus assumption))
  | (with_reducible apply iteT)
  | (with_reducible apply iteF))
local macro_rules | `(tactic| walk_at "go") => `(tactic| repeat (walk_at "st"))
local macro_rules | `(tactic| walk_at "sp") => `(tactic| (first | refine rd_split (fun c => ?_) (fun c => ?_) | refine rd_splitN (fun c => ?_) (fun c => ?_) | refine rd_splitB (fun c => ?_) (fun c => ?_)))
local macro_rules | `(tactic| walk_at "nx") => `(tactic| repeat (first | (with_reducible apply iteF) | (with_reducible apply iteT) | (with_reducible apply rd_next)))

section
variable {P : Program} {w : World} {K : PySem.W.Frag} {mg : Str → Option Value} {base : Heap}
theorem ups_lt (j : Jn) : ∀ (w n : Int) (i : Nat) (u : Int), (j.ups w n)[i]? = some u → (i = 0 ∧ u = w) ∨ (n ≤ u ∧ u < n + i) := by
  exact Jn.rec (motive_1 := fun j => ∀ (w n : Int) (i : Nat) (u : Int), (j.ups w n)[i]? = some u → (i = 0 ∧ u = w) ∨ (n ≤ u ∧ u < n + i)) (motive_2 := fun l => ∀ (w n : Int) (i : Nat) (u : Int), (Jn.upsl w n l)[i]? = some u → u = w ∨ (n ≤ u ∧ u < n + i))
    (fun op td parts ih w n i u h => by
      simp only [Jn.ups] at h
      cases i with
      | zero => exact .inl ⟨rfl, by simpa using h.symm⟩
      | succ i =>
        rw [List.getElem?_cons_succ] at h
        rcases ih _ _ _ _ h with h2 | h2
        · exact .inr (by omega)
        · exact .inr (by omega))
    (fun w n i u h => by simp [Jn.upsl] at h)
    (fun j r h1 h2 w n i u h => by
      simp only [Jn.upsl] at h
      have hl := ups_len j w n
      rcases Nat.lt_or_ge i (j.ups w n).length with z | z
      · rw [List.getElem?_append_left z] at h
        rcases h1 _ _ _ _ h with h3 | h3
        · exact .inl h3.2
        · exact .inr h3
      · rw [List.getElem?_append_right z] at h
        rcases h2 _ _ _ _ h with h3 | h3
        · exact .inl h3
        · exact .inr (by omega)) j
def spBs (K : PySem.W.Frag) : Sp := fun vs H Q _ => ∃ (v : V) (j : Jn), vs = [v] ∧ Rp K H v j.py ∧ j.ok ∧ j.cnt ≤ 40 ∧ walk 42 [j.py] 0 = none ∧ ∀ (H' : Hp) (p : Addr), Same H H' → SqT K H' p (nV (j.all.map Jn.cnt)) → Q (.ref p) H'
abbrev s_bough_sizes : Stmt := top 41
theorem sc_bough_sizes : FnScope ["program", "wholes", "found", "number"] ["program"] (defScope s_bough_sizes) := ⟨rfl, rfl, rfl, by decide +kernel, rfl, by decide +kernel, by decide +kernel⟩
theorem has_bough_sizes (O : OwnF K mg "bough_sizes" s_bough_sizes) (B : Bl mg) (BR : mg "reversed" = none) (h_above : HasF P w K mg base (L2.CX P w) 9 "above" ["program"] (spAbv K)) : HasF P w K mg base (L2.CX P w) 10 "bough_sizes" ["program"] (spBs K) := by
  refine hasX O sc_bough_sizes (fun _ _ _ _ _ _ us hl => match us, hl with | [_], _ => rfl) (fun vs H Q E h => ?_) (fun f cdv A outer s_ H vs Q E hr h => ?_)
  · obtain ⟨v, j, rfl, _⟩ := h
    rfl
  obtain ⟨v, j, rfl, r, hok, h40, hwk, q⟩ := h
  refine ⟨_, (pss_cons (ps_set (i := 1) sc_bough_sizes.nd rfl (by first | exact Or.inl rfl | exact Or.inr rfl) (pe_callHS h_above (hr.mono (by first | decide | omega)) (by rfl) (fun σ => passAt tkX σ) (pa_cons (pv 0) pa_nil))) (pss_cons (ps_set (i := 2) sc_bough_sizes.nd rfl (by first | exact Or.inl rfl | exact Or.inr rfl) (pe_op (kMul K) (pe_lst (pa_cons pe_int pa_nil)) (pe_callB (kLen K) (by rfl) B.len (by decide +kernel) (pa_cons (pv 1) pa_nil)))) (pss_cons (ps_for poX rfl (pi_revR (by rfl) BR (prg_2 (by rfl) B.range pe_int (pe_callB (kLen K) (by rfl) B.len (by decide +kernel) (pa_cons (pv 1) pa_nil)))) (pg_name (i := 3) sc_bough_sizes.nd rfl (by first | exact Or.inl rfl | exact Or.inr rfl)) (pss_one (ps_augS (pv 2) (pe_ix (kIx K) (pv 1) (pv 3) (fun _ _ => rfl)) (HE.kGetL K) (pe_ix (kIx K) (pv 2) (pv 3) (fun _ _ => rfl)) ip_add set_list))) (pss_one (ps_ret (pe_callTy (kTup K) (by rfl) B.tuple (by decide +kernel) (pa_cons (pv 2) pa_nil))))))), ?_⟩
  refine st0 [some v, none, none, none] rfl ?_
  walk_at "go"
  refine use_abv r hok h40 hwk fun H1 pa s1 hA => ?_
  have hul := ups_len j (-1) 0
  have lus : ((j.ups (-1) 0).map V.int).length = j.cnt := by rw [List.length_map, hul]
  have hc := cnt_pos j
  walk_at "go"
  refine ⟨lk rfl, fun pz hpz => ?_⟩
  walk_at "go"
  refine u_lenT (Ext.new hpz _ _ hA) ?_
  rw [lus]
  refine u_rep1 upd_same (by omega) fun pf hpf => ?_
  have s3 : Same H1 (upd (upd H1 pz (.lst [.int 1])) pf (.lst (List.replicate j.cnt (.int 1)))) := Same.new (same_new hpz _) hpf
  have hpf1 : H1 pf = none := none_ofS (same_new hpz (.lst [V.int 1])) hpf
  have e0 : (List.replicate j.cnt (V.int 1)) = nV (List.replicate j.cnt 1) := by unfold nV; rw [List.map_replicate] <;> rfl
  rw [e0]
  rw [e0] at s3
  have f0 : (upd (upd H1 pz (.lst [.int 1])) pf (.lst (nV (List.replicate j.cnt 1)))) pf = some (.lst (nV (List.replicate j.cnt 1))) := upd_same
  generalize upd (upd H1 pz (.lst [.int 1])) pf (.lst (nV (List.replicate j.cnt 1))) = H3 at *
  walk_at "go"
  show tRg2 _ _ _ _ _
  unfold tRg2
  walk_at "go"
  refine u_lenT (Ext.of_same s3 _ _ hA) ?_
  rw [lus]
  refine ⟨1, _, rfl, rfl, by omega, by omega, by omega, by omega, ?_⟩
  rw [show ((j.cnt : Int) - 1).toNat = j.cnt - 1 by omega]
  refine forC (fun i σ H' => ∃ (fds : List Nat) (o3 : Option V), σ = [some v, some (.ref pa), some (.ref pf), o3] ∧ Same H1 H' ∧ H' pf = some (.lst (nV fds)) ∧ fds.length = j.cnt ∧ ∀ x, x < j.cnt → fds[x]? = some (1 + sumK j x (j.cnt - i)))
    ⟨_, _, rfl, s3, f0, by rw [List.length_replicate], fun x hx => by rw [Nat.sub_zero, sumK_end, List.getElem?_replicate_of_lt hx]⟩ ?_ ?_
  · rintro i σ H4 hi ⟨fds, o3, rfl, k1, k2, k3, k4⟩
    obtain ⟨n, en⟩ : ∃ n, n = j.cnt - 1 - i := ⟨_, rfl⟩
    have hn1 : 1 ≤ n := by omega
    have hn2 : n < j.cnt := by omega
    have ex : (1 + ((j.cnt - 1 : Nat) : Int) - 1 + (i : Int) * -1) = (n : Int) := by omega
    obtain ⟨w, hw⟩ : ∃ w, j.all[n]? = some w := ⟨_, List.getElem?_eq_getElem (by rw [all_cnt]; exact hn2)⟩
    have hun : ∃ u : Nat, (j.ups (-1) 0)[n]? = some (u : Int) ∧ u < n := by
      obtain ⟨u, hu⟩ : ∃ u, (j.ups (-1) 0)[n]? = some u := ⟨_, List.getElem?_eq_getElem (by rw [hul]; exact hn2)⟩
      rcases ups_lt j _ _ _ _ hu with h | h
      · omega
      · exact ⟨u.toNat, by rw [hu, show ((u.toNat : Nat) : Int) = u by omega], by omega⟩
    obtain ⟨u, hu, un⟩ := hun
    have hA4 := Ext.of_same (K := K) k1 _ _ hA
    have gu := k4 u (by omega)
    have gn := k4 n hn2
    rw [sumK_all hw (by omega)] at gn
    walk_at "go"
    rw [ex]
    refine HE.rd_augS ?_
    walk_at "go"
    refine u_ixT hA4 (show atI ((j.ups (-1) 0).map V.int) (n : Int) = some (.int (u : Int)) from atI_nat (by rw [List.getElem?_map, hu] <;> rfl)) ?_
    refine ⟨pf, nV fds, (u : Int), _, rfl, rfl, SqL.of k2, atI_nat (nV_get gu), ?_⟩
    walk_at "go"
    refine u_ixL (SqL.of k2) (atI_nat (nV_get gn)) ?_
    refine ⟨_, _, rfl, rfl, ?_⟩
    refine ⟨pf, nV fds, (u : Int), u, rfl, rfl, k2, ?_, ?_⟩
    · unfold ixN
      rw [if_pos (by omega), if_pos (by rw [nV_len]; omega)]
      rfl
    have enx : (nV fds).set u (V.int (((1 + sumK j u (j.cnt - i) : Nat) : Int) + ((w.cnt : Nat) : Int))) = nV (fds.set u (1 + sumK j u (j.cnt - i) + w.cnt)) := by
      unfold nV
      rw [List.map_set] <;> rfl
    rw [enx]
    refine ⟨_, _, rfl, Same.upd_new k1 hpf1, upd_same, by rw [List.length_set]; exact k3, fun x hx => ?_⟩
    have en1 : j.cnt - i = n + 1 := by omega
    have en2 : j.cnt - (i + 1) = n := by omega
    rw [en2, sumK_step j x n]
    have hkin : n ∈ kinN (j.ups (-1) 0) x ↔ x = u := by
      unfold kinN
      rw [List.mem_filter, List.mem_range, hul, decide_eq_true_eq, hu, Option.some.injEq]
      omega
    by_cases c : x = u
    · subst c
      rw [List.getElem?_set_self (by omega), if_pos (hkin.mpr rfl), cntN_at hw, en1]
      congr 1
      omega
    · rw [List.getElem?_set_ne (Ne.symm c), if_neg (fun z => c (hkin.mp z)), Nat.add_zero, k4 x hx, en1]
  · rintro σ H4 ⟨fds, o3, rfl, k1, k2, k3, k4⟩
    have efd : fds = j.all.map Jn.cnt := by
      apply List.ext_getElem?
      intro x
      rcases Nat.lt_or_ge x j.cnt with z | z
      · obtain ⟨w, hw⟩ : ∃ w, j.all[x]? = some w := ⟨_, List.getElem?_eq_getElem (by rw [all_cnt]; exact z)⟩
        rw [k4 x z, sumK_all hw (by omega), List.getElem?_map, hw] <;> rfl
      · rw [List.getElem?_eq_none (by omega), List.getElem?_eq_none (by rw [List.length_map, all_cnt]; omega)]
    rw [efd] at k2
    walk_at "go"
    refine u_tupL (SqL.of k2) fun p hp => ?_
    exact q _ p (Same.new (s1.trans k1) hp) (SqT.of upd_same)
end
end Mine

/-! ### JJ -/
set_option maxHeartbeats 400000
namespace Mine
open PySem PySem.Spec L2
/-! ## side by side, by places -/
theorem idx_split {a b : List Nat} {x : Nat} (h : x ∉ a) : (a ++ x :: b).idxOf x = a.length := by
  rw [List.idxOf_append, if_neg h, List.idxOf_cons_self, Nat.zero_add]
theorem vd_pos {kin : Nat → List Nat} {n : Nat} {l : List Nat} (h : Vd kin n l) {x y : Nat} (hx : x ∈ l) (hy : y ∈ kin x) : l.idxOf y < l.idxOf x := by
  obtain ⟨a, b, e⟩ := List.append_of_mem hx
  have nd := h.nd
  have ha := h.pre a x b e y hy
  rw [e, List.nodup_append] at nd
  have hn : x ∉ a := fun hp => nd.2.2 x hp x List.mem_cons_self rfl
  rw [e, idx_split hn, List.idxOf_append, if_pos ha]
  exact List.idxOf_lt_length_of_mem ha
theorem vd_mem {kin : Nat → List Nat} {n : Nat} {l : List Nat} (h : Vd kin n l) {x : Nat} (hx : x < n) : x ∈ l := by
  refine Classical.byContradiction fun hn => ?_
  have h2 := nodup_le (l := l ++ [x]) (m := List.range n) (by
    rw [List.nodup_append]
    refine ⟨h.nd, by simp, fun a ha b hb eab => ?_⟩
    have e2 : b = x := by simpa using hb
    subst e2
    exact hn (eab ▸ ha)) fun y hy => by
      rw [List.mem_range]
      rcases List.mem_append.mp hy with hy | hy
      · exact h.lt y hy
      · have : y = x := by simpa using hy
        omega
  rw [List.length_append, List.length_range, h.len] at h2
  simp at h2
  omega
theorem bough_pos {j : Jn} {l : List Nat} (hV : Vd (kinN (j.ups (-1) 0)) j.cnt l) : ∀ (n : Nat) (w : Jn) (x y : Nat), w.cnt ≤ n → j.all[x]? = some w → x < y → y < x + w.cnt → l.idxOf y < l.idxOf x
  | 0, w, _, _, h, _, _, _ => by have := cnt_pos w; omega
  | n + 1, .mk op td parts, x, y, h, hx, h1, h2 => by
    simp only [Jn.cnt] at h h2
    have hz : y ∈ List.range' (x + 1) (Jn.cnts parts) := by
      rw [List.mem_range'_1]
      omega
    rw [← zt_ranges, List.mem_flatMap] at hz
    obtain ⟨p, hp, hy⟩ := hz
    rw [List.mem_range'_1] at hy
    obtain ⟨i, i1, i2⟩ := zt_get hp
    obtain ⟨t, t1, t2, t3, t4⟩ := part_at hx i1
    rw [i2, Option.some.injEq] at t1
    rw [← t1] at t4
    have hk : p.2 ∈ kinN (j.ups (-1) 0) x := by
      rw [kinN_tops hx]
      exact List.mem_of_getElem? i2
    have xm : x ∈ l := vd_mem hV (by
      have := lt_of_get hx
      rwa [all_cnt] at this)
    have q1 := vd_pos hV xm hk
    have := cnts_mem (List.mem_of_getElem? i1)
    rcases Nat.eq_or_lt_of_le hy.1 with e | e
    · rw [← e]
      exact q1
    · have := bough_pos hV n p.1 p.2 y (by omega) t4 e hy.2
      omega
/-- the bough of x stands side by side: x at the last of its cnt places -/
def Sbx (l : List Nat) (x c : Nat) : Prop := ∃ y, x ≤ y ∧ y < x + c ∧ (∀ z, x ≤ z → z < x + c → l.idxOf y ≤ l.idxOf z) ∧ l.idxOf x + 1 = l.idxOf y + c
def SbAll (j : Jn) (l : List Nat) : Prop := ∀ x w, j.all[x]? = some w → Sbx l x w.cnt
noncomputable def sbB (j : Jn) (l : List Nat) : Bool := @decide (SbAll j l) (Classical.propDecidable _)
theorem sbB_true {j : Jn} {l : List Nat} (h : SbAll j l) : sbB j l = true := @decide_eq_true _ (Classical.propDecidable _) h
theorem sbB_false {j : Jn} {l : List Nat} (h : ¬ SbAll j l) : sbB j l = false := @decide_eq_false _ (Classical.propDecidable _) h
theorem bro_sb {j : Jn} {l : List Nat} (h : BrO j j 0 l) : sbB j l = true := by
  refine sbB_true fun x w hw => ?_
  have hxl : x < j.cnt := by
    have := lt_of_get hw
    rwa [all_cnt] at this
  have nd : l.Nodup := h.perm.nodup_iff.mpr List.nodup_range'
  obtain ⟨a, m, b, e, hp⟩ := h.seg x (by omega) (by omega) w hw
  have lm : m.length + 1 = w.cnt := by
    have := hp.length_eq
    rwa [List.length_append, List.length_range'] at this
  have hna : ∀ z ∈ m ++ [x], z ∉ a := fun z hz ha => by
    rw [e, List.append_assoc, List.nodup_append] at nd
    exact nd.2.2 z ha z (List.mem_append_left _ hz) rfl
  have e2 : l = a ++ ((m ++ [x]) ++ b) := by rw [e, List.append_assoc]
  have hge : ∀ z ∈ m ++ [x], a.length ≤ l.idxOf z := fun z hz => by
    rw [e2, List.idxOf_append, if_neg (hna z hz)]
    omega
  have hxm : x ∉ m := fun hm => by
    rw [e2, List.nodup_append] at nd
    have := nd.2.1
    rw [List.nodup_append, List.nodup_append] at this
    exact this.1.2.2 x hm x (by simp) rfl
  have hpx : l.idxOf x = a.length + m.length := by
    rw [e2, List.idxOf_append, if_neg (hna x (by simp)), List.append_assoc, List.cons_append, List.nil_append, idx_split hxm]
    omega
  obtain ⟨y, hy, hpy⟩ : ∃ y ∈ m ++ [x], l.idxOf y = a.length := by
    cases m with
    | nil => exact ⟨x, by simp, by rw [hpx]; simp⟩
    | cons c r =>
      refine ⟨c, by simp, ?_⟩
      rw [e2, List.idxOf_append, if_neg (hna c (by simp)), List.cons_append, List.cons_append, List.idxOf_cons_self, Nat.zero_add]
  have rg : ∀ z, z ∈ m ++ [x] ↔ x ≤ z ∧ z < x + w.cnt := fun z => by rw [hp.mem_iff, List.mem_range'_1]
  have := (rg y).mp hy
  exact ⟨y, this.1, this.2, fun z z1 z2 => by rw [hpy]; exact hge z ((rg z).mpr ⟨z1, z2⟩), by rw [hpx, hpy]; omega⟩
theorem dueO_ge {kin : Nat → List Nat} {n : Nat} : ∀ (is : List Int) (p : List Nat) (i : Nat), dueO kin n is p i < 0 → dueO kin n is p i = -1
  | [], p, i, h => by
    have h' : (if i < n then (i : Int) else -1) < 0 := h
    show (if i < n then (i : Int) else -1) = -1
    by_cases c : i < n
    · rw [if_pos c] at h'; omega
    · rw [if_neg c]
  | x :: r, p, i, h => by
    rw [dueO_cons] at h ⊢
    by_cases c : mayL kin n p x = true
    · rw [if_pos c] at h ⊢
      exact dueO_ge r _ _ h
    · rw [if_neg c] at h
      omega
/-- no fault: an order -/
theorem vd_back {kin : Nat → List Nat} {n : Nat} : ∀ (is : List Int) (p : List Nat), dueO kin n is p p.length = -1 → p.Nodup → (∀ x ∈ p, x < n) → (∀ a x b, p = a ++ x :: b → ∀ y ∈ kin x, y ∈ a) → ∃ l, is = l.map (fun (k : Nat) => (k : Int)) ∧ Vd kin n (p ++ l)
  | [], p, h, nd, lt, pre => by
    have h' : (if p.length < n then (p.length : Int) else -1) = -1 := h
    have hl : n ≤ p.length := by
      by_cases c : p.length < n
      · rw [if_pos c] at h'; omega
      · omega
    have h2 := nodup_le nd (m := List.range n) fun x hx => List.mem_range.mpr (lt x hx)
    rw [List.length_range] at h2
    refine ⟨[], rfl, ?_⟩
    rw [List.append_nil]
    exact ⟨nd, lt, by omega, pre⟩
  | x :: r, p, h, nd, lt, pre => by
    rw [dueO_cons] at h
    by_cases c : mayL kin n p x = true
    · rw [if_pos c] at h
      obtain ⟨m, rfl, h1, h2⟩ := mayL_nat c
      rw [Int.toNat_natCast] at h
      have hk : ∀ y ∈ kin m, y ∈ p := by
        unfold mayL at c
        rw [Int.toNat_natCast] at c
        simp only [Bool.and_eq_true, List.all_eq_true, decide_eq_true_eq] at c
        exact c.2
      have nd2 : (p ++ [m]).Nodup := by
        rw [List.nodup_append]
        refine ⟨nd, by simp, fun a ha b hb eab => ?_⟩
        have e2 : b = m := by simpa using hb
        subst e2
        exact h2 (eab ▸ ha)
      obtain ⟨l, e, hV⟩ := vd_back r (p ++ [m]) (by rw [List.length_append]; exact h) nd2 (fun y hy => by
        rcases List.mem_append.mp hy with hy | hy
        · exact lt y hy
        · have : y = m := by simpa using hy
          omega) fun a y b e z hz => by
        rcases List.eq_nil_or_concat b with eb | ⟨b', u, eb⟩
        · subst eb
          have e2 := List.append_inj' e rfl
          have e3 : m = y := by simpa using e2.2
          subst e3
          rw [← e2.1]
          exact hk z hz
        · subst eb
          rw [List.concat_eq_append, ← List.cons_append, ← List.append_assoc] at e
          have e2 := List.append_inj' e rfl
          exact pre a y b' e2.1 z hz
      refine ⟨m :: l, by rw [e] <;> rfl, ?_⟩
      rw [List.append_assoc] at hV
      exact hV
    · rw [if_neg c] at h
      omega
end Mine
namespace Mine
theorem idx_cast (l : List Nat) (y : Nat) : ((l.map fun (k : Nat) => (k : Int)).idxOf (y : Int)) = l.idxOf y := by
  induction l with
  | nil => rfl
  | cons a r ih =>
    rw [List.map_cons, List.idxOf_cons, List.idxOf_cons, ih]
    by_cases c : a = y
    · subst c; simp
    · have c2 : ((a : Int) == (y : Int)) = false := beq_eq_false_iff_ne.mpr (by omega)
      have c3 : (a == y) = false := beq_eq_false_iff_ne.mpr c
      rw [c2, c3]
end Mine

/-! ### JK -/
namespace Mine
open PySem PySem.Spec L2
local macro_rules | `(tactic| walk_at "st") => `(tactic| first
  | ((with_reducible apply rd_var); exact rfl)
  | (with_reducible apply rd_c)
  | (with_reducible apply rd_seq)
  | (with_reducible apply rd_asg)
  | (with_reducible apply rd_gname)
  | (with_reducible apply rd_op)
  | (with_reducible apply rd_cb)
  | (with_reducible apply rd_cons)
  | (with_reducible apply rd_nil)
  | (with_reducible apply rd_if)
  | (with_reducible apply rd_test)
  | (with_reducible apply rd_bl)
  | (with_reducible apply rd_retE)
  | (with_reducible apply rd_ret)
  | (with_reducible apply rd_call)
  | (with_reducible apply rd_tup)
  | (with_reducible apply rd_lst)
  | (with_reducible apply rd_drop)
  | (with_reducible apply rd_next)
  | (with_reducible apply rd_ife)
  | (with_reducible apply rd_gsub)
  | (with_reducible apply rd_par)
  | (with_reducible apply rd_par_end)
  | (with_reducible apply rd_un)
  | (with_reducible apply rd_and)
  | (with_reducible apply rd_or)
  | (with_reducible apply rd_not)
  | (with_reducible apply rd_andV)
  | (with_reducible apply rd_orV)
  | (with_reducible apply rd_notV)
  | (with_reducible apply rd_chain)
  | (with_reducible apply rd_tB)
  | (with_reducible apply rd_brk)
  | (with_reducible apply rd_ct)
  | (with_reducible apply u_add)
  | (with_reducible apply u_sub)
  | (with_reducible apply u_lt)
  | (with_reducible apply u_le)
  | (with_reducible apply u_gt)
  | (with_reducible apply u_ge)
  | (with_reducible apply u_eqI)
  | (with_reducible apply u_eqS)
  | (with_reducible apply u_neI)
  | (with_reducible apply u_int)
  | (with_reducible apply u_intB)
  | (with_reducible apply u_max)
  | (with_reducible apply u_min)
  | (with_reducible apply u_neg)
  | ((with_reducible apply u_mod); focus first | assumption | decide | omega)
  | ((with_reducible apply u_div); focus first | decide | omega | (constructor <;> first | assumption | omega))
  | ((with_reducible apply u_mul); focus first | exact Or.inl (by omega) | exact Or.inr (by omega) | exact Or.inl (by decide) | exact Or.inr (by decide))
  | ((with_reducible apply u_ixL); (focus (first | assumption | exact SqL.of (by assumption) | exact SqL.of upd_same)); exact rfl)
  | ((with_reducible apply u_lenL); focus (first | assumption | exact SqL.of (by assumption) | exact SqL.of upd_same))
  | ((with_reducible apply u_lenT); focus (first | assumption | exact SqT.of (by assumption) | exact SqT.of upd_same))
  | ((with_reducible apply u_setL); (focus (first | assumption | exact upd_same)); exact rfl)
  | (with_reducible apply rd_chain3)
  | (with_reducible apply rd_tru)
  | (with_reducible apply rd_truB)
  | ((with_reducible apply rd_truL); focus (first | assumption | exact SqL.of (by assumption) | exact SqL.of upd_same))
  | (with_reducible apply rd_bm)
  | (with_reducible apply rd_bm0)
  | ((with_reducible apply rd_tyL); focus (first | exact SqL.of (by assumption) | exact SqL.of upd_same))
  | (with_reducible apply u_min3)
  | (with_reducible apply rd_rev)
  | (with_reducible apply rd_iList)
  | (with_reducible apply rd_iTup)
  | (with_reducible apply rd_for)
  | (with_reducible apply rd_rng1)
  | (with_reducible apply rd_rng2)
  | ((with_reducible apply rd_rng1e); (focus omega); (focus omega))
  | ((with_reducible apply rd_rng2e); (focus omega))
  | (with_reducible apply rd_gcons)
  | (with_reducible apply rd_gnil)
  | (with_reducible apply rd_retN)
  | (with_reducible apply g_eqI)
  | (with_reducible apply g_eqS)
  | (with_reducible apply g_neI)
  | (with_reducible apply g_neS)
  | (with_reducible apply g_neB)
  | (with_reducible apply rd_xf)
  | (with_reducible apply rd_raiseE)
  | (with_reducible apply rd_callS)
  | (with_reducible apply u_inD)
  | (with_reducible apply u_notInD)
  | (with_reducible apply u_inS)
  | (with_reducible apply u_notInS)
  | (with_reducible apply rd_iSeq)
  | ((with_reducible apply rd_seqL); (focus first | assumption | exact SqL.of (by assumption) | exact SqL.of upd_same))
  | ((with_reducible apply rd_seqT); (focus first | assumption | exact SqT.of (by assumption) | exact SqT.of upd_same))
  | (with_reducible apply rd_istr)
  | (with_reducible apply rd_istrE)
  | ((with_reducible apply u_isi); (focus (first | exact Or.inl rfl | exact Or.inr (Or.inl rfl) | exact Or.inr (Or.inr (Or.inl rfl)) | exact Or.inr (Or.inr (Or.inr rfl)))); (focus first | assumption | exact Rp.int _ | exact Rp.str _))
  | ((with_reducible apply rd_itL); (focus first | assumption | exact SqL.of (by assumption) | exact SqL.of upd_same))
  | ((with_reducible apply rd_itT); (focus first | assumption | exact SqT.of (by assumption) | exact SqT.of upd_same))
  | (with_reducible apply rd_lc)
  | (with_reducible apply rd_yes)
  | ((with_reducible apply u_pow); (focus (exact ⟨by decide, by decide, by decide⟩)))
  | (with_reducible apply u_mul; focus exact Or.inr cm)
  | (with_reducible apply rd_par3)
  | (with_reducible apply rd_par3_end)
  | ((with_reducible apply rd_aug); exact rfl)
  | (with_reducible apply rd_ipI)
  | (with_reducible apply rd_enA)
  | (with_reducible apply rd_revR)
  | (with_reducible apply rd_rg1)
  | (with_reducible apply rd_rng3)
  | ((with_reducible apply u_enT); (focus first | assumption | exact SqT.of (by assumption) | exact SqT.of upd_same))
  | ((with_reducible apply u_enL); (focus first | assumption | exact SqL.of (by assumption) | exact SqL.of upd_same))
  | (with_reducible apply rd_zip)
  | (with_reducible apply rd_lc2)
  | ((with_reducible apply rd_gtup); (focus first | assumption | exact SqT.of (by assumption) | exact SqT.of upd_same); (focus rfl))
  | (with_reducible apply rd_dnew)
  | (with_reducible apply rd_din)
  | (with_reducible apply rd_dget)
  | (with_reducible apply rd_dput)
  | (with_reducible apply rd_disp1)
  | (with_reducible apply rd_sl)
  | (with_reducible apply rd_part)
  | (with_reducible apply rd_partI)
  | (with_reducible apply rd_nopart)
  | (with_reducible apply u_isB)
  | (with_reducible apply u_repB)
  | (with_reducible apply u_notB)
  | (with_reducible apply rd_dc)
  | (with_reducible apply rd_bmT)
  | (with_reducible apply rd_tupF)
  | ((with_reducible apply rd_tyF); (focus assumption))
  | (with_reducible apply iteT)
  | (with_reducible apply iteF))
local macro_rules | `(tactic| walk_at "go") => `(tactic| repeat (walk_at "st"))
local macro_rules | `(tactic| walk_at "sp") => `(tactic| (first | refine rd_split (fun c => ?_) (fun c => ?_) | refine rd_splitN (fun c => ?_) (fun c => ?_) | refine rd_splitB (fun c => ?_) (fun c => ?_)))
local macro_rules | `(tactic| walk_at "nx") => `(tactic| repeat (first | (with_reducible apply iteF) | (with_reducible apply iteT) | (with_reducible apply rd_next)))

section
variable {P : Program} {w : World} {K : PySem.W.Frag} {mg : Str → Option Value} {base : Heap}
def spBw (K : PySem.W.Frag) (cO : Addr) : Sp := fun vs H Q E => ∃ (v : V) (j : Jn) (po : Addr) (is : List Int), vs = [v, .ref po] ∧ Rp K H v j.py ∧ j.ok ∧ j.cnt ≤ 40 ∧ walk 42 [j.py] 0 = none ∧ SqT K H po (is.map V.int) ∧ is.length ≤ 1000 ∧
  (∀ n : Int, ofB (kinN (j.ups (-1) 0)) (is.map PyData.int) (List.replicate j.cnt false) 0 = n → 0 ≤ n → RaisedV E H cO (.int n)) ∧ (∀ l, is = l.map (fun (k : Nat) => (k : Int)) → Vd (kinN (j.ups (-1) 0)) j.cnt l → ∀ H', Same H H' → Q (.bl (sbB j l)) H')
theorem use_co {K : PySem.W.Frag} {cO : Addr} {v : V} {j : Jn} {po : Addr} {xs : List V} {ds : List PyData} {H : Hp} {Q : VK} {E : XK} (r : Rp K H v j.py) (h : j.ok) (h1 : j.cnt ≤ 40) (h2 : walk 42 [j.py] 0 = none) (h3 : SqT K H po xs) (h4 : Rps K H xs ds) (h5 : ds.length ≤ 1000)
    (b : ∀ n : Int, ofB (kinN (j.ups (-1) 0)) ds (List.replicate j.cnt false) 0 = n → 0 ≤ n → RaisedV E H cO (.int n)) (q : ofB (kinN (j.ups (-1) 0)) ds (List.replicate j.cnt false) 0 < 0 → ∀ H', Same H H' → Q .non H') : spCo K cO [v, .ref po] H Q E := ⟨v, j, po, xs, ds, rfl, r, h, h1, h2, h3, h4, h5, b, q⟩
theorem use_bs {K : PySem.W.Frag} {v : V} {j : Jn} {H : Hp} {Q : VK} {E : XK} (r : Rp K H v j.py) (h : j.ok) (h1 : j.cnt ≤ 40) (h2 : walk 42 [j.py] 0 = none) (q : ∀ (H' : Hp) (p : Addr), Same H H' → SqT K H' p (nV (j.all.map Jn.cnt)) → Q (.ref p) H') : spBs K [v] H Q E := ⟨v, j, rfl, r, h, h1, h2, q⟩
theorem bough_end {j w : Jn} {x : Nat} (h : j.all[x]? = some w) : x + w.cnt ≤ j.cnt := by
  obtain ⟨op, td, parts⟩ := w
  have := (all_behind j x op td parts h).1
  simp only [Jn.cnt] at this ⊢
  omega
/-- the places of the numbers of an order -/
def Plc (kvs : List (Key × V)) (l : List Nat) (k : Nat) : Prop := kvs.length ≤ k ∧ ∀ (i : Nat) (x : Nat), i < k → l[i]? = some x → valV kvs (Sum.inl (x : Int)) = some (.int (i : Int))
theorem Plc.nil (l : List Nat) : Plc [] l 0 := ⟨Nat.le_refl _, fun i x h => by omega⟩
theorem Plc.next {kvs : List (Key × V)} {l : List Nat} {k x : Nat} (h : Plc kvs l k) (hx : l[k]? = some x) (nd : l.Nodup) : Plc (putK kvs (Sum.inl (x : Int)) (.int (k : Int))) l (k + 1) := by
  refine ⟨Nat.le_trans (length_putK _ _ _) (by have := h.1; omega), fun i y hi hy => ?_⟩
  rw [valV_put]
  by_cases c : y = x
  · subst c
    have : i = k := by
      have i1 := lt_of_get hy
      have i2 := lt_of_get hx
      rw [List.getElem?_eq_getElem i1, Option.some.injEq] at hy
      rw [List.getElem?_eq_getElem i2, Option.some.injEq] at hx
      exact (List.getElem_inj nd).mp (hy.trans hx.symm)
    subst this
    rw [if_pos rfl]
  · rw [if_neg (fun z => c (by have := Sum.inl.inj z; omega))]
    refine h.2 i y ?_ hy
    refine Nat.lt_of_le_of_ne (by omega) fun e => c ?_
    subst e
    rw [hx, Option.some.injEq] at hy
    exact hy.symm
theorem Plc.fin {kvs : List (Key × V)} {l : List Nat} (h : Plc kvs l l.length) {x : Nat} (hx : x ∈ l) : valV kvs (Sum.inl (x : Int)) = some (.int ((l.idxOf x : Nat) : Int)) := by
  have hi := List.idxOf_lt_length_of_mem hx
  exact h.2 _ x hi (by rw [List.getElem?_eq_getElem hi, List.getElem_idxOf hi])
abbrev s_branchwise : Stmt := top 55
theorem sc_branchwise : FnScope ["program", "order", "places", "place", "number", "many", "first", "joint"] ["program", "order"] (defScope s_branchwise) := ⟨rfl, rfl, rfl, by decide +kernel, rfl, by decide +kernel, by decide +kernel⟩
theorem has_branchwise {cO : Addr} (O : OwnF K mg "branchwise" s_branchwise) (B : Bl mg) (h_check_order : HasF P w K mg base (L2.CX P w) 12 "check_order" ["program", "order"] (spCo K cO)) (h_bough_sizes : HasF P w K mg base (L2.CX P w) 10 "bough_sizes" ["program"] (spBs K)) : HasF P w K mg base (L2.CX P w) 13 "branchwise" ["program", "order"] (spBw K cO) := by
  refine hasX O sc_branchwise (fun _ _ _ _ _ _ us hl => match us, hl with | [_, _], _ => rfl) (fun vs H Q E h => ?_) (fun f cdv A outer s_ H vs Q E hr h => ?_)
  · obtain ⟨v, j, po, is, rfl, _⟩ := h
    rfl
  obtain ⟨v, j, po, is, rfl, r, hok, h40, hwk, hO, h1000, hbad, q⟩ := h
  refine ⟨_, (pss_cons (ps_expr (pe_callHS h_check_order (hr.mono (by first | decide | omega)) (by rfl) (fun σ => passAt tkX σ) (pa_cons (pv 0) (pa_cons (pv 1) pa_nil)))) (pss_cons (ps_set (i := 2) sc_branchwise.nd rfl (by first | exact Or.inl rfl | exact Or.inr rfl) (pe_dc (own := [("place", 3), ("number", 4)]) (g := _) (tt := tYes) rfl sc_branchwise.nd (pi_enAK K (by rfl) B.enumerate (pa_cons (pv 1) pa_nil)) (blkOk_by (own := [("place", 3), ("number", 4)]) (N := ["program", "order", "places", "place", "number", "many", "first", "joint"]) (sc := defScope s_branchwise) (by decide +kernel)) (fun _ _ _ _ _ => (pg_tupK (n := 2) K rfl (pgs_cons (pg_name (i := 3) sc_branchwise.nd rfl (by first | exact Or.inl rfl | exact Or.inr rfl)) (pgs_cons (pg_name (i := 4) sc_branchwise.nd rfl (by first | exact Or.inl rfl | exact Or.inr rfl)) pgs_nil)))) (fun _ _ _ _ _ => pts_nil) (fun _ _ _ _ _ => (pv 4)) (fun _ _ _ _ _ => (pv 3)))) (pss_cons (ps_for poX rfl (pi_enAK K (by rfl) B.enumerate (pa_cons (pe_callHS h_bough_sizes (hr.mono (by first | decide | omega)) (by rfl) (fun σ => passAt tkX σ) (pa_cons (pv 0) pa_nil)) pa_nil)) (pg_tupK (n := 2) K rfl (pgs_cons (pg_name (i := 4) sc_branchwise.nd rfl (by first | exact Or.inl rfl | exact Or.inr rfl)) (pgs_cons (pg_name (i := 5) sc_branchwise.nd rfl (by first | exact Or.inl rfl | exact Or.inr rfl)) pgs_nil))) (pss_cons (ps_set (i := 6) sc_branchwise.nd rfl (by first | exact Or.inl rfl | exact Or.inr rfl) (pe_callB (cr_min rfl) (by rfl) B.min (by decide +kernel) (pa_cons (pe_lc (own := [("joint", 7)]) (g := gName 7) (tt := tYes) rfl sc_branchwise.nd (pi_range2 (by rfl) B.range (pa_cons (pv 4) (pa_cons (pe_op (kAdd K) (pv 4) (pv 5)) pa_nil))) (blkOk_by (own := [("joint", 7)]) (N := ["program", "order", "places", "place", "number", "many", "first", "joint"]) (sc := defScope s_branchwise) (by decide +kernel)) (fun _ _ _ _ _ => (pg_name (i := 7) sc_branchwise.nd rfl (by first | exact Or.inl rfl | exact Or.inr rfl))) (fun _ _ _ _ _ => pts_nil) (fun _ _ _ _ _ => (pe_dget (hu_of hr) (pv 2) (pv 7) (fun _ _ => rfl)))) pa_nil))) (pss_one (ps_if (pt_cmpR (kNeG K (hU hr)) (pe_op subU (pe_dget (hu_of hr) (pv 2) (pv 4) (fun _ _ => rfl)) (pv 6)) (pe_op subU (pv 5) pe_int) (nomark _)) (pss_one (ps_ret pe_bl)) pss_nil)))) (pss_one (ps_ret pe_bl))))), ?_⟩
  refine st0 [some v, some (.ref po), none, none, none, none, none, none] rfl ?_
  walk_at "go"
  refine use_co r hok h40 hwk hO (Rps.ints is) (by rw [List.length_map]; exact h1000) hbad fun hneg H1 s1 => ?_
  have hk : ∀ x, x < j.cnt → ∀ y ∈ kinN (j.ups (-1) 0) x, y < j.cnt := fun x hx y hy => by
    unfold kinN at hy
    rw [List.mem_filter, List.mem_range, ups_len] at hy
    exact hy.1
  have hdue := due_is hk is _ _ (Made.start j.cnt)
  rw [List.length_nil] at hdue
  rw [hdue] at hneg
  obtain ⟨l, hl, hV⟩ := vd_back is [] (dueO_ge _ _ _ hneg) List.nodup_nil (fun x hx => by (cases hx)) fun a x b e => by simp at e
  rw [List.nil_append] at hV
  have q2 := q l hl hV
  have eV : is.map V.int = nV l := by rw [hl, nV_ints]
  rw [eV] at hO
  have hO1 := Ext.of_same (K := K) s1 _ _ hO
  walk_at "go"
  intro D hD
  refine dcET (xs := nV l) (fun i H' => ∃ kvs, H' D = some (.dK kvs) ∧ Plc kvs l i ∧ Same H1 H') ⟨_, upd_same, Plc.nil l, Same.upd_new (Same.refl H1) hD⟩ ?_ ?_ ?_
  · rintro i H' hi ⟨kvs, k1, k2, k3⟩
    exact Ext.of_same k3 _ _ hO1
  · rintro i x t H' hx ⟨kvs, k1, k2, k3⟩ ht
    obtain ⟨y, hy, rfl⟩ : ∃ y : Nat, l[i]? = some y ∧ x = .int (y : Int) := by
      unfold nV at hx
      rw [List.getElem?_map, Option.map_eq_some_iff] at hx
      obtain ⟨y, h1, h2⟩ := hx
      exact ⟨y, h1, h2.symm⟩
    have sT : SqT K (upd H' t (.tup [.int (i : Nat), .int (y : Int)])) t [.int (i : Nat), .int (y : Int)] := SqT.of upd_same
    have st := same_new ht (.tup [.int (i : Nat), .int (y : Int)])
    have k4 := st _ _ k1
    have k5 := k3.trans st
    generalize upd H' t (.tup [.int (i : Nat), .int (y : Int)]) = H4 at *
    walk_at "go"
    refine ⟨rfl, ?_⟩
    walk_at "go"
    have := k2.1
    have := lt_of_get hy
    have := hV.len
    exact ⟨kvs, Sum.inl (y : Int), rfl, k4, ls (by omega), _, upd_same, k2.next hy hV.nd, Same.upd_new k5 hD⟩
  rintro H2 ⟨kvs, k1, k2, k3⟩
  rw [nV_len] at k2
  walk_at "go"
  refine use_bs (r.mono (Ext.of_same (s1.trans k3)) _ _) hok h40 hwk fun H3 pb s3 hB => ?_
  have k4 := s3 _ _ k1
  have s13 := s1.trans (k3.trans s3)
  have lb : (nV (j.all.map Jn.cnt)).length = j.cnt := by rw [nV_len, List.length_map, all_cnt]
  walk_at "go"
  refine HE.forET (xs := nV (j.all.map Jn.cnt)) (fun i σ H' => ∃ (o4 o5 o6 : Option V), σ = [some v, some (.ref po), some (.ref D), none, o4, o5, o6, none] ∧ Same H3 H' ∧ ∀ x w, x < i → j.all[x]? = some w → Sbx l x w.cnt)
    ⟨_, _, _, rfl, Same.refl H3, fun x w hx => by omega⟩ ?_ ?_ ?_
  · rintro i σ H' hi ⟨o4, o5, o6, rfl, g1, g2⟩
    exact Ext.of_same g1 _ _ hB
  · rintro i x t σ H' hx ⟨o4, o5, o6, rfl, g1, g2⟩ ht
    obtain ⟨w, hw, rfl⟩ : ∃ w, j.all[i]? = some w ∧ x = .int (w.cnt : Int) := by
      unfold nV at hx
      rw [List.getElem?_map, Option.map_eq_some_iff] at hx
      obtain ⟨y, h1, h2⟩ := hx
      rw [List.getElem?_map, Option.map_eq_some_iff] at h1
      obtain ⟨w, h3, rfl⟩ := h1
      exact ⟨w, h3, h2.symm⟩
    have il := lt_of_get hw
    rw [all_cnt] at il
    have hbw : i + w.cnt ≤ j.cnt := bough_end hw
    have hc := cnt_pos w
    have sT : SqT K (upd H' t (.tup [.int (i : Nat), .int (w.cnt : Int)])) t [.int (i : Nat), .int (w.cnt : Int)] := SqT.of upd_same
    have st := same_new ht (.tup [.int (i : Nat), .int (w.cnt : Int)])
    have g3 := g1.trans st
    generalize upd H' t (.tup [.int (i : Nat), .int (w.cnt : Int)]) = H4 at *
    walk_at "go"
    intro D2 hD2
    have ern : ((i : Int) + (w.cnt : Int) - (i : Int)).toNat = w.cnt := by omega
    rw [ern]
    refine lc_range (lo := (i : Int)) (n := w.cnt) (fun n H' => H' D2 = some (.lst (nV ((List.range' i n).map fun y => l.idxOf y))) ∧ Same H4 H') ⟨upd_same, Same.upd_new (Same.refl H4) hD2⟩ ?_ ?_
    · rintro n H5 hn ⟨f1, f2⟩
      have hm : i + n ∈ l := vd_mem hV (by omega)
      walk_at "go"
      refine ⟨rfl, ?_⟩
      walk_at "go"
      rw [show ((i : Int) + (n : Int)) = ((i + n : Nat) : Int) by omega]
      refine u_dget (f2 _ _ (g3 _ _ k4)) (k2.fin hm) ?_
      refine ⟨_, f1, ?_, ?_, Same.upd_new f2 hD2⟩
      · rw [nV_len, List.length_map, List.length_range']
        exact ls (by omega)
      · rw [upd_same, List.range'_concat, List.map_append, nV_app] <;> simp [nV]
    rintro H5 ⟨f1, f2⟩
    rw [nV_ints] at f1
    have lns : (((List.range' i w.cnt).map fun y => l.idxOf y).map fun (k : Nat) => (k : Int)).length = w.cnt := by rw [List.length_map, List.length_map, List.length_range']
    walk_at "go"
    refine u_minL (SqL.of f1) (by omega) fun m hm hmin => ?_
    obtain ⟨y, hy1, hy2, rfl⟩ : ∃ y, i ≤ y ∧ y < i + w.cnt ∧ m = ((l.idxOf y : Nat) : Int) := by
      rw [List.mem_map] at hm
      obtain ⟨z, hz, rfl⟩ := hm
      rw [List.mem_map] at hz
      obtain ⟨y, hy, rfl⟩ := hz
      rw [List.mem_range'_1] at hy
      exact ⟨y, hy.1, hy.2, rfl⟩
    have hmn : ∀ z, i ≤ z → z < i + w.cnt → l.idxOf y ≤ l.idxOf z := fun z z1 z2 => by
      have := hmin ((l.idxOf z : Nat) : Int) (by
        rw [List.mem_map]
        exact ⟨_, List.mem_map.mpr ⟨z, by rw [List.mem_range'_1]; exact ⟨z1, z2⟩, rfl⟩, rfl⟩)
      omega
    have g5 := g3.trans f2
    walk_at "go"
    refine u_dget (g5 _ _ k4) (k2.fin (vd_mem hV il)) ?_
    walk_at "go"
    refine rd_splitN (fun c => ?_) (fun c => ?_)
    · walk_at "go"
      have e : sbB j l = false := sbB_false fun hs => by
        obtain ⟨y2, a1, a2, a3, a4⟩ := hs i w hw
        have := a3 y hy1 hy2
        have := hmn y2 a1 a2
        omega
      rw [← e]
      exact q2 _ (s13.trans g5)
    · walk_at "nx"
      refine ⟨_, _, _, rfl, g5, fun x w2 hx hw2 => ?_⟩
      by_cases c2 : x = i
      · subst c2
        rw [hw, Option.some.injEq] at hw2
        subst hw2
        exact ⟨y, hy1, hy2, hmn, by omega⟩
      · exact g2 x w2 (by omega) hw2
  · rintro σ H4 ⟨o4, o5, o6, rfl, g1, g2⟩
    walk_at "go"
    have e : sbB j l = true := sbB_true fun x w hw => by
      have := lt_of_get hw
      rw [all_cnt] at this
      exact g2 x w (by rw [lb]; exact this) hw
    rw [← e]
    exact q2 _ (s13.trans g1)
end
end Mine

/-! ### JL -/
namespace Mine
open PySem PySem.Spec L2
local macro_rules | `(tactic| walk_at "st") => `(tactic| first
  | ((with_reducible apply rd_var); exact rfl)
  | (with_reducible apply rd_c)
  | (with_reducible apply rd_seq)
  | (with_reducible apply rd_asg)
  | (with_reducible apply rd_gname)
  | (with_reducible apply rd_op)
  | (with_reducible apply rd_cb)
  | (with_reducible apply rd_cons)
  | (with_reducible apply rd_nil)
  | (with_reducible apply rd_if)
  | (with_reducible apply rd_test)
  | (with_reducible apply rd_bl)
  | (with_reducible apply rd_retE)
  | (with_reducible apply rd_ret)
  | (with_reducible apply rd_call)
  | (with_reducible apply rd_tup)
  | (with_reducible apply rd_lst)
  | (with_reducible apply rd_drop)
  | (with_reducible apply rd_next)
  | (with_reducible apply rd_ife)
  | (with_reducible apply rd_gsub)
  | (with_reducible apply rd_par)
  | (with_reducible apply rd_par_end)
  | (with_reducible apply rd_un)
  | (with_reducible apply rd_and)
  | (with_reducible apply rd_or)
  | (with_reducible apply rd_not)
  | (with_reducible apply rd_andV)
  | (with_reducible apply rd_orV)
  | (with_reducible apply rd_notV)
  | (with_reducible apply rd_chain)
  | (with_reducible apply rd_tB)
  | (with_reducible apply rd_brk)
  | (with_reducible apply rd_ct)
  | (with_reducible apply u_add)
  | (with_reducible apply u_sub)
  | (with_reducible apply u_lt)
  | (with_reducible apply u_le)
  | (with_reducible apply u_gt)
  | (with_reducible apply u_ge)
  | (with_reducible apply u_eqI)
  | (with_reducible apply u_eqS)
  | (with_reducible apply u_neI)
  | (with_reducible apply u_int)
  | (with_reducible apply u_intB)
  | (with_reducible apply u_max)
  | (with_reducible apply u_min)
  | (with_reducible apply u_neg)
  | ((with_reducible apply u_mod); focus first | assumption | decide | omega)
  | ((with_reducible apply u_div); focus first | decide | omega | (constructor <;> first | assumption | omega))
  | ((with_reducible apply u_mul); focus first | exact Or.inl (by omega) | exact Or.inr (by omega) | exact Or.inl (by decide) | exact Or.inr (by decide))
  | ((with_reducible apply u_ixL); (focus (first | assumption | exact SqL.of (by assumption) | exact SqL.of upd_same)); exact rfl)
  | ((with_reducible apply u_lenL); focus (first | assumption | exact SqL.of (by assumption) | exact SqL.of upd_same))
  | ((with_reducible apply u_lenT); focus (first | assumption | exact SqT.of (by assumption) | exact SqT.of upd_same))
  | ((with_reducible apply u_setL); (focus (first | assumption | exact upd_same)); exact rfl)
  | (with_reducible apply rd_chain3)
  | (with_reducible apply rd_tru)
  | (with_reducible apply rd_truB)
  | ((with_reducible apply rd_truL); focus (first | assumption | exact SqL.of (by assumption) | exact SqL.of upd_same))
  | (with_reducible apply rd_bm)
  | (with_reducible apply rd_bm0)
  | ((with_reducible apply rd_tyL); focus (first | exact SqL.of (by assumption) | exact SqL.of upd_same))
  | (with_reducible apply u_min3)
  | (with_reducible apply rd_rev)
  | (with_reducible apply rd_iList)
  | (with_reducible apply rd_iTup)
  | (with_reducible apply rd_for)
  | (with_reducible apply rd_rng1)
  | (with_reducible apply rd_rng2)
  | ((with_reducible apply rd_rng1e); (focus omega); (focus omega))
  | ((with_reducible apply rd_rng2e); (focus omega))
  | (with_reducible apply rd_gcons)
  | (with_reducible apply rd_gnil)
  | (with_reducible apply rd_retN)
  | (with_reducible apply g_eqI)
  | (with_reducible apply g_eqS)
  | (with_reducible apply g_neI)
  | (with_reducible apply g_neS)
  | (with_reducible apply g_neB)
  | (with_reducible apply rd_xf)
  | (with_reducible apply rd_raiseE)
  | (with_reducible apply rd_callS)
  | (with_reducible apply u_inD)
  | (with_reducible apply u_notInD)
  | (with_reducible apply u_inS)
  | (with_reducible apply u_notInS)
  | (with_reducible apply rd_iSeq)
  | ((with_reducible apply rd_seqL); (focus first | assumption | exact SqL.of (by assumption) | exact SqL.of upd_same))
  | ((with_reducible apply rd_seqT); (focus first | assumption | exact SqT.of (by assumption) | exact SqT.of upd_same))
  | (with_reducible apply rd_istr)
  | (with_reducible apply rd_istrE)
  | ((with_reducible apply u_isi); (focus (first | exact Or.inl rfl | exact Or.inr (Or.inl rfl) | exact Or.inr (Or.inr (Or.inl rfl)) | exact Or.inr (Or.inr (Or.inr rfl)))); (focus first | assumption | exact Rp.int _ | exact Rp.str _))
  | ((with_reducible apply rd_itL); (focus first | assumption | exact SqL.of (by assumption) | exact SqL.of upd_same))
  | ((with_reducible apply rd_itT); (focus first | assumption | exact SqT.of (by assumption) | exact SqT.of upd_same))
  | (with_reducible apply rd_lc)
  | (with_reducible apply rd_yes)
  | ((with_reducible apply u_pow); (focus (exact ⟨by decide, by decide, by decide⟩)))
  | (with_reducible apply u_mul; focus exact Or.inr cm)
  | (with_reducible apply rd_par3)
  | (with_reducible apply rd_par3_end)
  | ((with_reducible apply rd_aug); exact rfl)
  | (with_reducible apply rd_ipI)
  | (with_reducible apply rd_enA)
  | (with_reducible apply rd_revR)
  | (with_reducible apply rd_rg1)
  | (with_reducible apply rd_rng3)
  | ((with_reducible apply u_enT); (focus first | assumption | exact SqT.of (by assumption) | exact SqT.of upd_same))
  | ((with_reducible apply u_enL); (focus first | assumption | exact SqL.of (by assumption) | exact SqL.of upd_same))
  | (with_reducible apply rd_zip)
  | (with_reducible apply rd_lc2)
  | ((with_reducible apply rd_gtup); (focus first | assumption | exact SqT.of (by assumption) | exact SqT.of upd_same); (focus rfl))
  | (with_reducible apply rd_dnew)
  | (with_reducible apply rd_din)
  | (with_reducible apply rd_dget)
  | (with_reducible apply rd_dput)
  | (with_reducible apply rd_disp1)
  | (with_reducible apply rd_sl)
  | (with_reducible apply rd_part)
  | (with_reducible apply rd_partI)
  | (with_reducible apply rd_nopart)
  | (with_reducible apply u_isB)
  | (with_reducible apply u_repB)
  | (with_reducible apply u_notB)
  | (with_reducible apply rd_dc)
  | (with_reducible apply rd_bmT)
  | (with_reducible apply rd_tupF)
  | ((with_reducible apply rd_tyF); (focus assumption))
  | (with_reducible apply iteT)
  | (with_reducible apply iteF))
local macro_rules | `(tactic| walk_at "go") => `(tactic| repeat (walk_at "st"))
local macro_rules | `(tactic| walk_at "sp") => `(tactic| (first | refine rd_split (fun c => ?_) (fun c => ?_) | refine rd_splitN (fun c => ?_) (fun c => ?_) | refine rd_splitB (fun c => ?_) (fun c => ?_)))
local macro_rules | `(tactic| walk_at "nx") => `(tactic| repeat (first | (with_reducible apply iteF) | (with_reducible apply iteT) | (with_reducible apply rd_next)))

section
variable {P : Program} {w : World} {K : PySem.W.Frag} {mg : Str → Option Value} {base : Heap}
theorem may_next {kin : Nat → List Nat} {n : Nat} {l : List Nat} (nd : l.Nodup) (ll : l.length < n) (hk : ∀ x, x < n → ∀ y ∈ kin x, x < y ∧ y < n) : ∃ x, x < n ∧ x ∉ l ∧ ∀ y ∈ kin x, y ∈ l := by
  refine Classical.byContradiction fun hne => ?_
  have hall : ∀ k x, n - x ≤ k → x < n → x ∈ l := by
    intro k
    induction k with
    | zero => intro x h1 h2; omega
    | succ k ih =>
      intro x h1 h2
      refine Classical.byContradiction fun hx => hne ⟨x, h2, hx, fun y hy => ?_⟩
      have := hk x h2 y hy
      exact ih y (by omega) this.2
  have := nodup_le (l := List.range n) (m := l) List.nodup_range fun x hx => hall n x (by omega) (List.mem_range.mp hx)
  rw [List.length_range] at this
  omega
/-- an order begun -/
structure Bgn (kin : Nat → List Nat) (n : Nat) (l : List Nat) : Prop where
  nd : l.Nodup
  lt : ∀ x ∈ l, x < n
  pre : ∀ a x b, l = a ++ x :: b → ∀ y ∈ kin x, y ∈ a
theorem Bgn.nil {kin : Nat → List Nat} {n : Nat} : Bgn kin n [] := ⟨List.nodup_nil, fun x hx => (by cases hx), fun a x b e => by simp at e⟩
theorem Bgn.next {kin : Nat → List Nat} {n x : Nat} {l : List Nat} (h : Bgn kin n l) (h1 : x < n) (h2 : x ∉ l) (h3 : ∀ y ∈ kin x, y ∈ l) : Bgn kin n (l ++ [x]) := by
  refine ⟨?_, fun y hy => ?_, fun a y b e z hz => ?_⟩
  · rw [List.nodup_append]
    refine ⟨h.nd, by simp, fun a ha b hb eab => ?_⟩
    have e2 : b = x := by simpa using hb
    subst e2
    exact h2 (eab ▸ ha)
  · rcases List.mem_append.mp hy with hy | hy
    · exact h.lt y hy
    · have : y = x := by simpa using hy
      omega
  · rcases List.eq_nil_or_concat b with eb | ⟨b', u, eb⟩
    · subst eb
      have e2 := List.append_inj' e rfl
      have e3 : x = y := by simpa using e2.2
      subst e3
      rw [← e2.1]
      exact h3 z hz
    · subst eb
      rw [List.concat_eq_append, ← List.cons_append, ← List.append_assoc] at e
      have e2 := List.append_inj' e rfl
      exact h.pre a y b' e2.1 z hz
theorem Bgn.vd {kin : Nat → List Nat} {n : Nat} {l : List Nat} (h : Bgn kin n l) (e : l.length = n) : Vd kin n l := ⟨h.nd, h.lt, e, h.pre⟩
def spAo (K : PySem.W.Frag) : Sp := fun vs H Q _ => ∃ (a b : Addr) (rows : List V) (j : Jn), vs = [.ref a, .ref b] ∧ Src H a ∧ b ≠ a ∧ H b = some (.lst rows) ∧ Kns (j.ups (-1) 0) rows H b j.cnt ∧ (∀ (x : Nat) (r : Addr), rows[x]? = some (.ref r) → r ≠ a) ∧ j.cnt ≤ 40 ∧
  ∀ (H' : Hp) (q : Addr) (l' : List Nat), SB a H H' → Src H' a → HE.FT H' q (nV l') → Vd (kinN (j.ups (-1) 0)) j.cnt l' → Q (.ref q) H'
abbrev scAny : Scope := { kind := ScopeKind.function, names := [(".0", .local), ("x", .local), ("kin", .cell), ("row", .cell)], isGenerator := false, isCoroutine := false, more := [] }
theorem isEmpty_fil {l : List Nat} : ∀ k : List Nat, (((k.filter fun y => !decide (y ∈ l)).map fun (n : Nat) => (n : Int)).map PyData.int).isEmpty = k.all fun y => decide (y ∈ l)
  | [] => rfl
  | a :: r => by
    rw [List.filter_cons, List.all_cons]
    by_cases ca : a ∈ l
    · rw [decide_eq_true ca]
      simp only [Bool.not_true, Bool.false_eq_true, if_false, Bool.true_and]
      exact isEmpty_fil r
    · rw [decide_eq_false ca]
      rfl
theorem inV_nats (x : Nat) (l : List Nat) : inV (.int (x : Int)) (nV l) = decide (x ∈ l) := by
  rw [nV_ints, inV_ints, Bool.eq_iff_iff, decide_eq_true_eq, decide_eq_true_eq, List.mem_map]
  exact ⟨fun ⟨y, h1, h2⟩ => by rw [show x = y by omega]; exact h1, fun h => ⟨x, h, rfl⟩⟩
theorem flat_nats (l : List Nat) : (nV l).all flatV = true := by rw [nV_ints]; exact flat_ints2 _
theorem u_ninL {K : PySem.W.Frag} {a : Addr} {x : V} {xs : List V} {H : Hp} {Q : VK} (s : SqL K H a xs) (fx : flatV x = true) (fxs : xs.all flatV = true) (h : Q (.bl (!inV x xs)) H) : rNotInU K x (.ref a) H Q := .inl ⟨a, xs, rfl, .inl s, fx, fxs, h⟩
abbrev s_law_any_order : Stmt := top 68
theorem sc_law_any_order : FnScope ["source", "kin", "row", "turn", "x", "y"] ["source", "kin"] (defScope s_law_any_order) := ⟨rfl, rfl, rfl, by decide +kernel, rfl, by decide +kernel, by decide +kernel⟩
theorem has_any_order (O : OwnF K mg "_law_any_order" s_law_any_order) (B : Bl mg) (h_law_one : HasF P w K mg base CX0 2 "_law_one" ["source", "things"] (spOne K)) : HasF P w K mg base CX0 3 "_law_any_order" ["source", "kin"] (spAo K) := by
  refine has0 O sc_law_any_order (fun _ _ _ _ _ _ us hl => match us, hl with | [_, _], _ => rfl) (fun vs H Q E h => ?_) (fun f cdv A outer s_ H vs Q E hr h => ?_)
  · obtain ⟨a, b, rows, j, rfl, _⟩ := h
    rfl
  obtain ⟨a, b, rows, j, rfl, hS, hba, hb, hK, hra, h40, q⟩ := h
  have hul := ups_len j (-1) 0
  have hkin : ∀ x, x < j.cnt → ∀ y ∈ kinN (j.ups (-1) 0) x, x < y ∧ y < j.cnt := fun x hx y hy => by
    obtain ⟨w, hw⟩ : ∃ w, j.all[x]? = some w := ⟨_, List.getElem?_eq_getElem (by rw [all_cnt]; exact hx)⟩
    have h1 := kin_in hw hy
    have h2 := bough_end hw
    omega
  refine ⟨_, (pss_cons (ps_set (i := 2) sc_law_any_order.nd rfl (by first | exact Or.inl rfl | exact Or.inr rfl) (pe_lst pa_nil)) (pss_cons (ps_for PassesOwn.never rfl (pi_range1 (by rfl) B.range (pa_cons (pe_callB (kLen K) (by rfl) B.len (by decide +kernel) (pa_cons (pv 1) pa_nil)) pa_nil)) (pg_name (i := 3) sc_law_any_order.nd rfl (by first | exact Or.inl rfl | exact Or.inr rfl)) (pss_one (ps_expr (pe_bmK K PySem.F.plainAttrs_list PySem.F.slot_list_append PySem.F.type_list_append mt_append (pv 2) (pa_cons (pe_callH h_law_one (hr.mono (by first | decide | omega)) (by rfl) pass0 (pa_cons (pv 0) (pa_cons (pe_lc (own := [("x", 4)]) (g := gName 4) (tt := _) rfl sc_law_any_order.nd (pi_range1 (by rfl) B.range (pa_cons (pe_callB (kLen K) (by rfl) B.len (by decide +kernel) (pa_cons (pv 1) pa_nil)) pa_nil)) (blkOk_by (own := [("x", 4)]) (N := ["source", "kin", "row", "turn", "x", "y"]) (sc := defScope s_law_any_order) (by decide +kernel)) (fun _ _ _ _ _ => (pg_name (i := 4) sc_law_any_order.nd rfl (by first | exact Or.inl rfl | exact Or.inr rfl))) (fun _ _ _ _ _ => (pts_one (PW.pt (pw_and (pt_cmpR (kNotIn K) (pv 4) (pv 2) (by rfl)) (pw_and1 (pt_cmpR (kEqG K (hU hr)) (pe_lc (own := [("y", 5)]) (g := gName 5) (tt := _) rfl sc_law_any_order.nd (pi_listK K (pe_ix (kIx K) (pv 1) (pv 4) (fun _ _ => rfl))) (blkOk_by (own := [("y", 5)]) (N := ["source", "kin", "row", "turn", "x", "y"]) (sc := scAny) (by decide +kernel)) (fun _ _ _ _ _ => (pg_name (i := 5) sc_law_any_order.nd rfl (by first | exact Or.inl rfl | exact Or.inr rfl))) (fun _ _ _ _ _ => (pts_one (pt_cmpR (kNotIn K) (pv 5) (pv 2) (by rfl)))) (fun _ _ _ _ _ => (pv 5))) (pe_lst pa_nil) (nomark _))))))) (fun _ _ _ _ _ => (pv 4))) pa_nil))) pa_nil))))) (pss_one (ps_ret (pe_callTy (kTupF K) (by rfl) B.tuple (by decide +kernel) (pa_cons (pv 2) pa_nil)))))), ?_⟩
  refine st0 [some (.ref a), some (.ref b), none, none, none, none] rfl ?_
  walk_at "go"
  refine ⟨lk rfl, fun pr hpr => ?_⟩
  walk_at "go"
  try refine u_lenL (SqL.of (by rw [upd_ne (ne_of_none hb hpr)]; exact hb)) ?_
  rw [hK.1]
  walk_at "go"
  refine forR (fun n σ H' => ∃ (o3 : Option V) (rw_ : List Nat), σ = [some (.ref a), some (.ref b), some (.ref pr), o3, none, none] ∧ SB a H H' ∧ Src H' a ∧ pr ≠ a ∧ H' pr = some (.lst (nV rw_)) ∧ Bgn (kinN (j.ups (-1) 0)) j.cnt rw_ ∧ rw_.length = n)
    ⟨_, [], rfl, SB.refl.new hpr, hS.new hpr, hS.ne hpr, upd_same, Bgn.nil, rfl⟩ ?_ ?_
  · rintro n σ H' hn ⟨o3, rw_, rfl, k1, k2, k3, k4, k5, k6⟩
    have hn2 : n < j.cnt := by
      have hn3 : n < ((j.cnt : Nat) : Int).toNat := hn
      omega
    have hb' := k1 _ _ hba hb
    have hK' := hK.sb hra k1
    walk_at "go"
    rw [hK.1]
    walk_at "go"
    intro D hD
    have nDr : D ≠ pr := (ne_of_none k4 hD).symm
    refine lc_range (lo := 0) (n := ((j.cnt : Nat) : Int).toNat) (fun i H2 => H2 D = some (.lst (nV ((List.range i).filter fun x => !decide (x ∈ rw_) && (kinN (j.ups (-1) 0) x).all fun y => decide (y ∈ rw_)))) ∧ Same H' H2) ⟨upd_same, Same.upd_new (Same.refl H') hD⟩ ?_ ?_
    · rintro i H2 hi ⟨f1, f2⟩
      have hi2 : i < j.cnt := by
        have hi3 : i < ((j.cnt : Nat) : Int).toNat := hi
        omega
      have ef : (List.range (i + 1)).filter (fun x => !decide (x ∈ rw_) && (kinN (j.ups (-1) 0) x).all fun y => decide (y ∈ rw_)) = (List.range i).filter (fun x => !decide (x ∈ rw_) && (kinN (j.ups (-1) 0) x).all fun y => decide (y ∈ rw_)) ++ if (!decide (i ∈ rw_) && (kinN (j.ups (-1) 0) i).all fun y => decide (y ∈ rw_)) = true then [i] else [] := by
        rw [List.range_succ, List.filter_append, List.filter_cons, List.filter_nil]
      rw [ef]
      rw [Int.zero_add]
      walk_at "go"
      refine ⟨rfl, ?_⟩
      walk_at "go"
      refine u_ninL (SqL.of (f2 _ _ k4)) rfl (flat_nats _) ?_
      rw [inV_nats]
      walk_at "go"
      by_cases c1 : i ∈ rw_
      · rw [decide_eq_true c1]
        refine iteF ?_
        refine iteF ?_
        refine ⟨?_, f2⟩
        simpa using f1
      rw [decide_eq_false c1]
      refine iteT ?_
      obtain ⟨rk, hrk, hrk1, hrk2⟩ := hK'.2 i hi2
      have f3 := f2 _ _ hrk2
      walk_at "go"
      refine u_ixL (SqL.of (f2 _ _ hb')) (atI_nat hrk) ?_
      walk_at "go"
      try refine rd_itL (SqL.of f3) ?_
      intro D2 hD2
      have n12 : D2 ≠ D := (ne_of_none f1 hD2).symm
      refine lc_list (xs := nV (kinN (j.ups (-1) 0) i)) (fun m H3 => H3 D2 = some (.lst (nV (((kinN (j.ups (-1) 0) i).take m).filter fun y => !decide (y ∈ rw_)))) ∧ Same H2 H3) ⟨upd_same, Same.upd_new (Same.refl H2) hD2⟩ ?_ ?_ ?_
      · rintro m H3 hm ⟨g1, g2⟩
        exact SqL.of (g2 _ _ f3)
      · rintro m v H3 hv ⟨g1, g2⟩
        unfold nV at hv
        rw [List.getElem?_map, Option.map_eq_some_iff] at hv
        obtain ⟨y, hy, rfl⟩ := hv
        have lf : (((kinN (j.ups (-1) 0) i).take m).filter fun y => !decide (y ∈ rw_)).length < sizeLine := by
          refine ls (Nat.le_trans (List.length_filter_le _ _) ?_)
          rw [List.length_take]
          have : (kinN (j.ups (-1) 0) i).length ≤ 40 := by
            unfold kinN
            exact Nat.le_trans (List.length_filter_le _ _) (by rw [List.length_range]; omega)
          omega
        walk_at "go"
        refine ⟨rfl, ?_⟩
        walk_at "go"
        refine u_ninL (SqL.of (g2 _ _ (f2 _ _ k4))) rfl (flat_nats _) ?_
        rw [inV_nats]
        walk_at "go"
        have etk : ((kinN (j.ups (-1) 0) i).take (m + 1)).filter (fun y => !decide (y ∈ rw_)) = ((kinN (j.ups (-1) 0) i).take m).filter (fun y => !decide (y ∈ rw_)) ++ [y].filter (fun y => !decide (y ∈ rw_)) := by
          rw [List.take_add_one, hy, List.filter_append] <;> rfl
        rw [etk]
        by_cases cy : y ∈ rw_
        · rw [decide_eq_true cy]
          refine iteF ?_
          refine ⟨?_, g2⟩
          rw [List.filter_cons, decide_eq_true cy]
          simp only [Bool.not_true, List.filter_nil, if_false, List.append_nil, Bool.false_eq_true]
          exact g1
        · rw [decide_eq_false cy]
          refine iteT ?_
          walk_at "go"
          refine ⟨_, g1, ?_, ?_, Same.upd_new g2 hD2⟩
          · rw [nV_len]
            exact lf
          · rw [upd_same, List.filter_cons, decide_eq_false cy, nV_app]
            rfl
      rintro H3 ⟨g1, g2⟩
      rw [nV_len, List.take_length] at g1
      walk_at "go"
      refine ⟨lk rfl, fun p3 hp3 => ?_⟩
      have nD3 : D2 ≠ p3 := ne_of_none g1 hp3
      have hlay : PyData.canLay0 (.list ((((kinN (j.ups (-1) 0) i).filter fun y => !decide (y ∈ rw_)).map fun (n : Nat) => (n : Int)).map PyData.int)) = true := by
        simp only [PyData.canLay0]
        exact dats_lay _ (ints_layJ _)
      refine g_eqD (d := .list ((((kinN (j.ups (-1) 0) i).filter fun y => !decide (y ∈ rw_)).map fun (n : Nat) => (n : Int)).map PyData.int)) (e := .list []) (.lst (SqL.of (by rw [upd_ne nD3]; exact g1)) (by rw [nV_ints]; exact Rps.dp _ _ (Rps.ints _))) (.lst (SqL.of upd_same) .nil) hlay (by simp [PyData.canLay0, PyData.canLayAll0]) (by simp [PyData.depth, PyData.depthAll]) ?_
      rw [eqv_nil, isEmpty_fil]
      have s4 := (f2.trans g2).trans (same_new hp3 (.lst []))
      have f4 := Same.trans g2 (same_new hp3 (.lst [])) _ _ f1
      cases ea : (kinN (j.ups (-1) 0) i).all fun y => decide (y ∈ rw_) with
      | false =>
        refine ⟨false, rfl, ?_⟩
        refine iteF ?_
        refine ⟨?_, s4⟩
        rw [if_neg (by simp), List.append_nil]
        exact f4
      | true =>
        refine ⟨true, rfl, ?_⟩
        refine iteT ?_
        walk_at "go"
        refine ⟨_, f4, ?_, ?_, Same.upd_new s4 hD⟩
        · rw [nV_len]
          refine ls (Nat.le_trans (List.length_filter_le _ _) ?_)
          rw [List.length_range]
          omega
        · rw [upd_same, if_pos (by simp [c1]), nV_app] <;> rfl
    rintro H2 ⟨f1, f2⟩
    rw [show ((j.cnt : Nat) : Int).toNat = j.cnt by omega] at f1
    obtain ⟨x0, y1, y2, y3⟩ := may_next k5.nd (by omega) hkin
    have k22 := k2.same f2
    have hDa : D ≠ a := k2.ne hD
    walk_at "go"
    refine use_one k22 (SqL.of f1) hDa ?_ ?_ fun H3 v s3 hS3 hv => ?_
    · rw [nV_len]
      refine List.length_pos_of_mem (a := x0) ?_
      rw [List.mem_filter, List.mem_range]
      refine ⟨y1, ?_⟩
      simp only [Bool.and_eq_true, Bool.not_eq_true', decide_eq_false_iff_not, List.all_eq_true, decide_eq_true_eq]
      exact ⟨y2, y3⟩
    · rw [nV_len]
      refine Nat.lt_of_le_of_lt (List.length_filter_le _ _) ?_
      rw [List.length_range]
      omega
    obtain ⟨x, rfl, hx1, hx2, hx3⟩ : ∃ x : Nat, v = .int (x : Int) ∧ x < j.cnt ∧ x ∉ rw_ ∧ ∀ y ∈ kinN (j.ups (-1) 0) x, y ∈ rw_ := by
      unfold nV at hv
      rw [List.mem_map] at hv
      obtain ⟨x, hx, rfl⟩ := hv
      rw [List.mem_filter, List.mem_range] at hx
      have h2 := hx.2
      simp only [Bool.and_eq_true, Bool.not_eq_true', decide_eq_false_iff_not, List.all_eq_true, decide_eq_true_eq] at h2
      exact ⟨x, rfl, hx.1, h2.1, h2.2⟩
    have k42 := s3 _ _ k3 (f2 _ _ k4)
    walk_at "go"
    refine u_app k42 ?_ ?_
    · rw [nV_len]
      exact ls (by omega)
    refine ⟨_, rw_ ++ [x], rfl, ?_, hS3.set k3, k3, by rw [upd_same, nV_app] <;> rfl, k5.next hx1 hx2 hx3, by rw [List.length_append, k6] <;> rfl⟩
    exact ((k1.trans (SB.of_same f2)).trans s3).upd_new hpr
  · rintro σ H' ⟨o3, rw_, rfl, k1, k2, k3, k4, k5, k6⟩
    walk_at "go"
    refine u_tupF (SqL.of k4) fun p H2 s2 hp => ?_
    exact q _ p rw_ (k1.trans (SB.of_same s2)) (k2.same s2) hp (k5.vd (by rw [k6]; omega))
end
end Mine

/-! ### JM -/
namespace Mine
open PySem PySem.Spec L2
local macro_rules | `(tactic| walk_at "st") => `(tactic| first
  | ((with_reducible apply rd_var); exact rfl)
  | (with_reducible apply rd_c)
  | (with_reducible apply rd_seq)
  | (with_reducible apply rd_asg)
  | (with_reducible apply rd_gname)
  | (with_reducible apply rd_op)
  | (with_reducible apply rd_cb)
  | (with_reducible apply rd_cons)
  | (with_reducible apply rd_nil)
  | (with_reducible apply rd_if)
  | (with_reducible apply rd_test)
  | (with_reducible apply rd_bl)
  | (with_reducible apply rd_retE)
  | (with_reducible apply rd_ret)
  | (with_reducible apply rd_call)
  | (with_reducible apply rd_tup)
  | (with_reducible apply rd_lst)
  | (with_reducible apply rd_drop)
  | (with_reducible apply rd_next)
  | (with_reducible apply rd_ife)
  | (with_reducible apply rd_gsub)
  | (with_reducible apply rd_par)
  | (with_reducible apply rd_par_end)
  | (with_reducible apply rd_un)
  | (with_reducible apply rd_and)
  | (with_reducible apply rd_or)
  | (with_reducible apply rd_not)
  | (with_reducible apply rd_andV)
  | (with_reducible apply rd_orV)
  | (with_reducible apply rd_notV)
  | (with_reducible apply rd_chain)
  | (with_reducible apply rd_tB)
  | (with_reducible apply rd_brk)
  | (with_reducible apply rd_ct)
  | (with_reducible apply u_add)
  | (with_reducible apply u_sub)
  | (with_reducible apply u_lt)
  | (with_reducible apply u_le)
  | (with_reducible apply u_gt)
  | (with_reducible apply u_ge)
  | (with_reducible apply u_eqI)
  | (with_reducible apply u_eqS)
  | (with_reducible apply u_neI)
  | (with_reducible apply u_int)
  | (with_reducible apply u_intB)
  | (with_reducible apply u_max)
  | (with_reducible apply u_min)
  | (with_reducible apply u_neg)
  | ((with_reducible apply u_mod); focus first | assumption | decide | omega)
  | ((with_reducible apply u_div); focus first | decide | omega | (constructor <;> first | assumption | omega))
  | ((with_reducible apply u_mul); focus first | exact Or.inl (by omega) | exact Or.inr (by omega) | exact Or.inl (by decide) | exact Or.inr (by decide))
  | ((with_reducible apply u_ixL); (focus (first | assumption | exact SqL.of (by assumption) | exact SqL.of upd_same)); exact rfl)
  | ((with_reducible apply u_lenL); focus (first | assumption | exact SqL.of (by assumption) | exact SqL.of upd_same))
  | ((with_reducible apply u_lenT); focus (first | assumption | exact SqT.of (by assumption) | exact SqT.of upd_same))
  | ((with_reducible apply u_setL); (focus (first | assumption | exact upd_same)); exact rfl)
  | (with_reducible apply rd_chain3)
  | (with_reducible apply rd_tru)
  | (with_reducible apply rd_truB)
  | ((with_reducible apply rd_truL); focus (first | assumption | exact SqL.of (by assumption) | exact SqL.of upd_same))
  | (with_reducible apply rd_bm)
  | (with_reducible apply rd_bm0)
  | ((with_reducible apply rd_tyL); focus (first | exact SqL.of (by assumption) | exact SqL.of upd_same))
  | (with_reducible apply u_min3)
  | (with_reducible apply rd_rev)
  | (with_reducible apply rd_iList)
  | (with_reducible apply rd_iTup)
  | (with_reducible apply rd_for)
  | (with_reducible apply rd_rng1)
  | (with_reducible apply rd_rng2)
  | ((with_reducible apply rd_rng1e); (focus omega); (focus omega))
  | ((with_reducible apply rd_rng2e); (focus omega))
  | (with_reducible apply rd_gcons)
  | (with_reducible apply rd_gnil)
  | (with_reducible apply rd_retN)
  | (with_reducible apply g_eqI)
  | (with_reducible apply g_eqS)
  | (with_reducible apply g_neI)
  | (with_reducible apply g_neS)
  | (with_reducible apply g_neB)
  | (with_reducible apply rd_xf)
  | (with_reducible apply rd_raiseE)
  | (with_reducible apply rd_callS)
  | (with_reducible apply u_inD)
  | (with_reducible apply u_notInD)
  | (with_reducible apply u_inS)
  | (with_reducible apply u_notInS)
  | (with_reducible apply rd_iSeq)
  | ((with_reducible apply rd_seqL); (focus first | assumption | exact SqL.of (by assumption) | exact SqL.of upd_same))
  | ((with_reducible apply rd_seqT); (focus first | assumption | exact SqT.of (by assumption) | exact SqT.of upd_same))
  | (with_reducible apply rd_istr)
  | (with_reducible apply rd_istrE)
  | ((with_reducible apply u_isi); (focus (first | exact Or.inl rfl | exact Or.inr (Or.inl rfl) | exact Or.inr (Or.inr (Or.inl rfl)) | exact Or.inr (Or.inr (Or.inr rfl)))); (focus first | assumption | exact Rp.int _ | exact Rp.str _))
  | ((with_reducible apply rd_itL); (focus first | assumption | exact SqL.of (by assumption) | exact SqL.of upd_same))
  | ((with_reducible apply rd_itT); (focus first | assumption | exact SqT.of (by assumption) | exact SqT.of upd_same))
  | (with_reducible apply rd_lc)
  | (with_reducible apply rd_yes)
  | ((with_reducible apply u_pow); (focus (exact ⟨by decide, by decide, by decide⟩)))
  | (with_reducible apply u_mul; focus exact Or.inr cm)
  | (with_reducible apply rd_par3)
  | (with_reducible apply rd_par3_end)
  | ((with_reducible apply rd_aug); exact rfl)
  | (with_reducible apply rd_ipI)
  | (with_reducible apply rd_enA)
  | (with_reducible apply rd_revR)
  | (with_reducible apply rd_rg1)
  | (with_reducible apply rd_rng3)
  | ((with_reducible apply u_enT); (focus first | assumption | exact SqT.of (by assumption) | exact SqT.of upd_same))
  | ((with_reducible apply u_enL); (focus first | assumption | exact SqL.of (by assumption) | exact SqL.of upd_same))
  | (with_reducible apply rd_zip)
  | (with_reducible apply rd_lc2)
  | ((with_reducible apply rd_gtup); (focus first | assumption | exact SqT.of (by assumption) | exact SqT.of upd_same); (focus rfl))
  | (with_reducible apply rd_dnew)
  | (with_reducible apply rd_din)
  | (with_reducible apply rd_dget)
  | (with_reducible apply rd_dput)
  | (with_reducible apply rd_disp1)
  | (with_reducible apply rd_sl)
  | (with_reducible apply rd_part)
  | (with_reducible apply rd_partI)
  | (with_reducible apply rd_nopart)
  | (with_reducible apply u_isB)
  | (with_reducible apply u_repB)
  | (with_reducible apply u_notB)
  | (with_reducible apply rd_dc)
  | (with_reducible apply rd_bmT)
  | (with_reducible apply rd_tupF)
  | ((with_reducible apply rd_tyF); (focus assumption))
  | (with_reducible apply iteT)
  | (with_reducible apply iteF))
local macro_rules | `(tactic| walk_at "go") => `(tactic| repeat (walk_at "st"))
local macro_rules | `(tactic| walk_at "sp") => `(tactic| (first | refine rd_split (fun c => ?_) (fun c => ?_) | refine rd_splitN (fun c => ?_) (fun c => ?_) | refine rd_splitB (fun c => ?_) (fun c => ?_)))
local macro_rules | `(tactic| walk_at "nx") => `(tactic| repeat (first | (with_reducible apply iteF) | (with_reducible apply iteT) | (with_reducible apply rd_next)))

section
variable {P : Program} {w : World} {K : PySem.W.Frag} {mg : Str → Option Value} {base : Heap}
def spSb (K : PySem.W.Frag) : Sp := fun vs H Q _ => ∃ (b po : Addr) (rows : List V) (j : Jn) (l : List Nat), vs = [.ref b, .ref po] ∧ H b = some (.lst rows) ∧ Kns (j.ups (-1) 0) rows H b j.cnt ∧ j.cnt ≤ 40 ∧ j.ok ∧ HE.FT H po (nV l) ∧ Vd (kinN (j.ups (-1) 0)) j.cnt l ∧ ∀ H', Same H H' → Q (.bl (sbB j l)) H'
abbrev s_law_side_by_side : Stmt := top 72
theorem sc_law_side_by_side : FnScope ["kin", "order", "x", "places", "y"] ["kin", "order"] (defScope s_law_side_by_side) := ⟨rfl, rfl, rfl, by decide +kernel, rfl, by decide +kernel, by decide +kernel⟩
theorem has_side_by_side (O : OwnF K mg "_law_side_by_side" s_law_side_by_side) (B : Bl mg) (h_law_under : HasF P w K mg base CX0 42 "_law_under" ["kin", "x"] (spUn K 40)) : HasF P w K mg base CX0 43 "_law_side_by_side" ["kin", "order"] (spSb K) := by
  refine has0 O sc_law_side_by_side (fun _ _ _ _ _ _ us hl => match us, hl with | [_, _], _ => rfl) (fun vs H Q E h => ?_) (fun f cdv A outer s_ H vs Q E hr h => ?_)
  · obtain ⟨b, po, rows, j, l, rfl, _⟩ := h
    rfl
  obtain ⟨b, po, rows, j, l, rfl, hb, hK, h40, hok, hO, hV, q⟩ := h
  refine ⟨_, (pss_cons (ps_for PassesOwn.never rfl (pi_range1 (by rfl) B.range (pa_cons (pe_callB (kLen K) (by rfl) B.len (by decide +kernel) (pa_cons (pv 0) pa_nil)) pa_nil)) (pg_name (i := 2) sc_law_side_by_side.nd rfl (by first | exact Or.inl rfl | exact Or.inr rfl)) (pss_cons (ps_setLc (i := 3) (own := [("y", 4)]) (g := gName 4) (tt := tYes) rfl sc_law_side_by_side.nd rfl rfl (sw_true rfl rfl rfl (by decide +kernel)) (pi_listK K (pe_callH h_law_under (hr.mono (by first | decide | omega)) (by rfl) pass0 (pa_cons (pv 0) (pa_cons (pv 2) pa_nil)))) (blkOk_by (own := [("y", 4)]) (N := ["kin", "order", "x", "places", "y"]) (sc := defScope s_law_side_by_side) (by decide +kernel)) (fun _ _ _ _ _ => (pg_name (i := 4) sc_law_side_by_side.nd rfl (by first | exact Or.inl rfl | exact Or.inr rfl))) (fun _ _ _ _ _ => pts_nil) (fun _ _ _ _ _ => (HE.pe_bmT PySem.F.plainAttrs_tuple PySem.F.slot_tuple_index PySem.F.type_tuple_index (kTix K) (pv 1) (pa_cons (pv 4) pa_nil)))) (pss_one (ps_if (pt_cmpR (kNeG K (hU hr)) (pe_op subU (pe_callB (cr_max rfl) (by rfl) B.max (by decide +kernel) (pa_cons (pv 3) pa_nil)) (pe_callB (cr_min rfl) (by rfl) B.min (by decide +kernel) (pa_cons (pv 3) pa_nil))) (pe_op subU (pe_callB (kLen K) (by rfl) B.len (by decide +kernel) (pa_cons (pv 3) pa_nil)) pe_int) (nomark _)) (pss_one (ps_ret pe_bl)) pss_nil)))) (pss_one (ps_ret pe_bl))), ?_⟩
  refine st0 [some (.ref b), some (.ref po), none, none, none] rfl ?_
  walk_at "go"
  rw [hK.1]
  walk_at "go"
  refine forR (fun n σ H' => ∃ (o2 o3 : Option V), σ = [some (.ref b), some (.ref po), o2, o3, none] ∧ Same H H' ∧ ∀ x w, x < n → j.all[x]? = some w → Sbx l x w.cnt) ⟨_, _, rfl, Same.refl H, fun x w hx => by omega⟩ ?_ ?_
  · rintro i σ H1 hi ⟨o2, o3, rfl, k1, k2⟩
    have hi2 : i < j.cnt := by
      have hi3 : i < ((j.cnt : Nat) : Int).toNat := hi
      omega
    obtain ⟨w, hw⟩ : ∃ w, j.all[i]? = some w := ⟨_, List.getElem?_eq_getElem (by rw [all_cnt]; exact hi2)⟩
    have hbw := bough_end hw
    have hc := cnt_pos w
    rw [Int.zero_add]
    walk_at "go"
    refine use_un (k1 _ _ hb) (hK.same k1) h40 hok hw (by omega) fun H2 r s2 hr0 hr => ?_
    have k3 := k1.trans s2
    walk_at "go"
    try refine rd_itL (SqL.of hr) ?_
    intro D hD
    refine lc_list (xs := nV (List.range' i w.cnt)) (fun n H' => H' D = some (.lst (nV ((List.range' i n).map fun y => l.idxOf y))) ∧ Same H2 H') ⟨upd_same, Same.upd_new (Same.refl H2) hD⟩ ?_ ?_ ?_
    · rintro n H3 hn ⟨f1, f2⟩
      exact SqL.of (f2 _ _ hr)
    · rintro n v H3 hv ⟨f1, f2⟩
      obtain ⟨hn, rfl⟩ : n < w.cnt ∧ v = .int ((i + n : Nat) : Int) := by
        unfold nV at hv
        rw [List.getElem?_map, Option.map_eq_some_iff] at hv
        obtain ⟨y, hy, rfl⟩ := hv
        have hn := lt_of_get hy
        rw [List.length_range'] at hn
        rw [List.getElem?_range' hn, Option.some.injEq] at hy
        subst hy
        exact ⟨hn, by simp⟩
      have hm : i + n ∈ l := vd_mem hV (by omega)
      have hO3 := FT.same hO (k3.trans f2)
      walk_at "go"
      refine ⟨rfl, ?_⟩
      walk_at "go"
      have hO4 : SqT K H3 po (nV l) := hO3.sq
      rw [nV_ints] at hO4
      refine u_tix hO4 (List.mem_map_of_mem hm) ?_
      rw [idx_cast]
      refine ⟨_, f1, ?_, ?_, Same.upd_new f2 hD⟩
      · rw [nV_len, List.length_map, List.length_range']
        exact ls (by omega)
      · rw [upd_same, List.range'_concat, List.map_append, nV_app] <;> simp [nV]
    rintro H3 ⟨f1, f2⟩
    rw [nV_len, List.length_range'] at f1
    have k4 := k3.trans f2
    have f1' := f1
    rw [nV_ints] at f1
    have lns : (((List.range' i w.cnt).map fun y => l.idxOf y).map fun (k : Nat) => (k : Int)).length = w.cnt := by rw [List.length_map, List.length_map, List.length_range']
    have mem_ns : ∀ m : Int, m ∈ ((List.range' i w.cnt).map fun y => l.idxOf y).map (fun (k : Nat) => (k : Int)) → ∃ y, i ≤ y ∧ y < i + w.cnt ∧ m = ((l.idxOf y : Nat) : Int) := fun m hm => by
      rw [List.mem_map] at hm
      obtain ⟨z, hz, rfl⟩ := hm
      rw [List.mem_map] at hz
      obtain ⟨y, hy, rfl⟩ := hz
      rw [List.mem_range'_1] at hy
      exact ⟨y, hy.1, hy.2, rfl⟩
    have ns_mem : ∀ y, i ≤ y → y < i + w.cnt → ((l.idxOf y : Nat) : Int) ∈ ((List.range' i w.cnt).map fun y => l.idxOf y).map (fun (k : Nat) => (k : Int)) := fun y y1 y2 => by
      rw [List.mem_map]
      exact ⟨_, List.mem_map.mpr ⟨y, by rw [List.mem_range'_1]; exact ⟨y1, y2⟩, rfl⟩, rfl⟩
    walk_at "go"
    refine u_maxL (SqL.of f1) (by omega) fun m1 hm1 hmax => ?_
    have em1 : m1 = ((l.idxOf i : Nat) : Int) := by
      obtain ⟨y, y1, y2, rfl⟩ := mem_ns m1 hm1
      have h1 := hmax _ (ns_mem i (Nat.le_refl _) (by omega))
      rcases Nat.eq_or_lt_of_le y1 with e | e
      · rw [← e]
      · have := bough_pos hV _ w i y (Nat.le_refl _) hw e y2
        omega
    walk_at "go"
    refine u_minL (SqL.of f1) (by omega) fun m hm hmin => ?_
    obtain ⟨y, hy1, hy2, rfl⟩ := mem_ns m hm
    have hmn : ∀ z, i ≤ z → z < i + w.cnt → l.idxOf y ≤ l.idxOf z := fun z z1 z2 => by
      have := hmin _ (ns_mem z z1 z2)
      omega
    walk_at "go"
    try refine u_lenL (SqL.of f1) ?_
    rw [nV_len, List.length_map, List.length_range', em1]
    walk_at "go"
    refine rd_splitN (fun c => ?_) (fun c => ?_)
    · walk_at "go"
      have e : sbB j l = false := sbB_false fun hs => by
        obtain ⟨y2, a1, a2, a3, a4⟩ := hs i w hw
        have := a3 y hy1 hy2
        have := hmn y2 a1 a2
        omega
      rw [← e]
      exact q _ k4
    · walk_at "nx"
      refine ⟨_, _, rfl, k4, fun x w2 hx hw2 => ?_⟩
      by_cases c2 : x = i
      · subst c2
        rw [hw, Option.some.injEq] at hw2
        subst hw2
        exact ⟨y, hy1, hy2, hmn, by omega⟩
      · exact k2 x w2 (by omega) hw2
  · rintro σ H1 ⟨o2, o3, rfl, k1, k2⟩
    walk_at "go"
    have e : sbB j l = true := sbB_true fun x w hw => by
      have := lt_of_get hw
      rw [all_cnt] at this
      exact k2 x w (by omega) hw
    rw [← e]
    exact q _ k1
end
end Mine

/-! ### JN -/
namespace Mine
open PySem PySem.Spec L2
local macro_rules | `(tactic| walk_at "st") => `(tactic| first
  | ((with_reducible apply rd_var); exact rfl)
  | (with_reducible apply rd_c)
  | (with_reducible apply rd_seq)
  | (with_reducible apply rd_asg)
  | (with_reducible apply rd_gname)
  | (with_reducible apply rd_op)
  | (with_reducible apply rd_cb)
  | (with_reducible apply rd_cons)
  | (with_reducible apply rd_nil)
  | (with_reducible apply rd_if)
  | (with_reducible apply rd_test)
  | (with_reducible apply rd_bl)
  | (with_reducible apply rd_retE)
  | (with_reducible apply rd_ret)
  | (with_reducible apply rd_call)
  | (with_reducible apply rd_tup)
  | (with_reducible apply rd_lst)
  | (with_reducible apply rd_drop)
  | (with_reducible apply rd_next)
  | (with_reducible apply rd_ife)
  | (with_reducible apply rd_gsub)
  | (with_reducible apply rd_par)
  | (with_reducible apply rd_par_end)
  | (with_reducible apply rd_un)
  | (with_reducible apply rd_and)
  | (with_reducible apply rd_or)
  | (with_reducible apply rd_not)
  | (with_reducible apply rd_andV)
  | (with_reducible apply rd_orV)
  | (with_reducible apply rd_notV)
  | (with_reducible apply rd_chain)
  | (with_reducible apply rd_tB)
  | (with_reducible apply rd_brk)
  | (with_reducible apply rd_ct)
  | (with_reducible apply u_add)
  | (with_reducible apply u_sub)
  | (with_reducible apply u_lt)
  | (with_reducible apply u_le)
  | (with_reducible apply u_gt)
  | (with_reducible apply u_ge)
  | (with_reducible apply u_eqI)
  | (with_reducible apply u_eqS)
  | (with_reducible apply u_neI)
  | (with_reducible apply u_int)
  | (with_reducible apply u_intB)
  | (with_reducible apply u_max)
  | (with_reducible apply u_min)
  | (with_reducible apply u_neg)
  | ((with_reducible apply u_mod); focus first | assumption | decide | omega)
  | ((with_reducible apply u_div); focus first | decide | omega | (constructor <;> first | assumption | omega))
  | ((with_reducible apply u_mul); focus first | exact Or.inl (by omega) | exact Or.inr (by omega) | exact Or.inl (by decide) | exact Or.inr (by decide))
  | ((with_reducible apply u_ixL); (focus (first | assumption | exact SqL.of (by assumption) | exact SqL.of upd_same)); exact rfl)
  | ((with_reducible apply u_lenL); focus (first | assumption | exact SqL.of (by assumption) | exact SqL.of upd_same))
  | ((with_reducible apply u_lenT); focus (first | assumption | exact SqT.of (by assumption) | exact SqT.of upd_same))
  | ((with_reducible apply u_setL); (focus (first | assumption | exact upd_same)); exact rfl)
  | (with_reducible apply rd_chain3)
  | (with_reducible apply rd_tru)
  | (with_reducible apply rd_truB)
  | ((with_reducible apply rd_truL); focus (first | assumption | exact SqL.of (by assumption) | exact SqL.of upd_same))
  | (with_reducible apply rd_bm)
  | (with_reducible apply rd_bm0)
  | ((with_reducible apply rd_tyL); focus (first | exact SqL.of (by assumption) | exact SqL.of upd_same))
  | (with_reducible apply u_min3)
  | (with_reducible apply rd_rev)
  | (with_reducible apply rd_iList)
  | (with_reducible apply rd_iTup)
  | (with_reducible apply rd_for)
  | (with_reducible apply rd_rng1)
  | (with_reducible apply rd_rng2)
  | ((with_reducible apply rd_rng1e); (focus omega); (focus omega))
  | ((with_reducible apply rd_rng2e); (focus omega))
  | (with_reducible apply rd_gcons)
  | (with_reducible apply rd_gnil)
  | (with_reducible apply rd_retN)
  | (with_reducible apply g_eqI)
  | (with_reducible apply g_eqS)
  | (with_reducible apply g_neI)
  | (with_reducible apply g_neS)
  | (with_reducible apply g_neB)
  | (with_reducible apply rd_xf)
  | (with_reducible apply rd_raiseE)
  | (with_reducible apply rd_callS)
  | (with_reducible apply u_inD)
  | (with_reducible apply u_notInD)
  | (with_reducible apply u_inS)
  | (with_reducible apply u_notInS)
  | (with_reducible apply rd_iSeq)
  | ((with_reducible apply rd_seqL); (focus first | assumption | exact SqL.of (by assumption) | exact SqL.of upd_same))
  | ((with_reducible apply rd_seqT); (focus first | assumption | exact SqT.of (by assumption) | exact SqT.of upd_same))
  | (with_reducible apply rd_istr)
  | (with_reducible apply rd_istrE)
  | ((with_reducible apply u_isi); (focus (first | exact Or.inl rfl | exact Or.inr (Or.inl rfl) | exact Or.inr (Or.inr (Or.inl rfl)) | exact Or.inr (Or.inr (Or.inr rfl)))); (focus first | assumption | exact Rp.int _ | exact Rp.str _))
  | ((with_reducible apply rd_itL); (focus first | assumption | exact SqL.of (by assumption) | exact SqL.of upd_same))
  | ((with_reducible apply rd_itT); (focus first | assumption | exact SqT.of (by assumption) | exact SqT.of upd_same))
  | (with_reducible apply rd_lc)
  | (with_reducible apply rd_yes)
  | ((with_reducible apply u_pow); (focus (exact ⟨by decide, by decide, by decide⟩)))
  | (with_reducible apply u_mul; focus exact Or.inr cm)
  | (with_reducible apply rd_par3)
  | (with_reducible apply rd_par3_end)
  | ((with_reducible apply rd_aug); exact rfl)
  | (with_reducible apply rd_ipI)
  | (with_reducible apply rd_enA)
  | (with_reducible apply rd_revR)
  | (with_reducible apply rd_rg1)
  | (with_reducible apply rd_rng3)
  | ((with_reducible apply u_enT); (focus first | assumption | exact SqT.of (by assumption) | exact SqT.of upd_same))
  | ((with_reducible apply u_enL); (focus first | assumption | exact SqL.of (by assumption) | exact SqL.of upd_same))
  | (with_reducible apply rd_zip)
  | (with_reducible apply rd_lc2)
  | ((with_reducible apply rd_gtup); (focus first | assumption | exact SqT.of (by assumption) | exact SqT.of upd_same); (focus rfl))
  | (with_reducible apply rd_dnew)
  | (with_reducible apply rd_din)
  | (with_reducible apply rd_dget)
  | (with_reducible apply rd_dput)
  | (with_reducible apply rd_disp1)
  | (with_reducible apply rd_sl)
  | (with_reducible apply rd_part)
  | (with_reducible apply rd_partI)
  | (with_reducible apply rd_nopart)
  | (with_reducible apply u_isB)
  | (with_reducible apply u_repB)
  | (with_reducible apply u_notB)
  | (with_reducible apply rd_dc)
  | (with_reducible apply rd_bmT)
  | (with_reducible apply rd_tupF)
  | ((with_reducible apply rd_tyF); (focus assumption))
  | (with_reducible apply iteT)
  | (with_reducible apply iteF))
local macro_rules | `(tactic| walk_at "go") => `(tactic| repeat (walk_at "st"))
local macro_rules | `(tactic| walk_at "sp") => `(tactic| (first | refine rd_split (fun c => ?_) (fun c => ?_) | refine rd_splitN (fun c => ?_) (fun c => ?_) | refine rd_splitB (fun c => ?_) (fun c => ?_)))
local macro_rules | `(tactic| walk_at "nx") => `(tactic| repeat (first | (with_reducible apply iteF) | (with_reducible apply iteT) | (with_reducible apply rd_next)))

section
variable {P : Program} {w : World} {K : PySem.W.Frag} {mg : Str → Option Value} {base : Heap}
def spBe (K : PySem.W.Frag) : Sp := fun vs H Q _ => ∃ (a po : Addr) (is : List Int), vs = [.ref a, .ref po] ∧ Src H a ∧ SqT K H po (is.map V.int) ∧ 0 < is.length ∧ is.length ≤ 100 ∧
  ∀ (H' : Hp) (q : Addr) (is' : List Int), SB a H H' → Src H' a → SqT K H' q (is'.map V.int) → is'.length ≤ 200 → Q (.ref q) H'
theorem use_be {K : PySem.W.Frag} {a po : Addr} {is : List Int} {H : Hp} {Q : VK} {E : XK} (h : Src H a) (h1 : SqT K H po (is.map V.int)) (h2 : 0 < is.length) (h3 : is.length ≤ 100) (q : ∀ (H' : Hp) (q : Addr) (is' : List Int), SB a H H' → Src H' a → SqT K H' q (is'.map V.int) → is'.length ≤ 200 → Q (.ref q) H') : spBe K [.ref a, .ref po] H Q E := ⟨a, po, is, rfl, h, h1, h2, h3, q⟩
theorem atI_ints {is : List Int} {k : Nat} {z : Int} (h : is[k]? = some z) : atI (is.map V.int) (k : Int) = some (.int z) := atI_nat (by rw [List.getElem?_map, h] <;> rfl)
theorem set_ints (is : List Int) (k : Nat) (z : Int) : (is.map V.int).set k (V.int z) = (is.set k z).map V.int := by rw [List.map_set]
theorem ixN_nat {n k : Nat} (h : k < n) : ixN n (k : Int) = some k := by
  unfold ixN
  rw [if_pos (by omega), if_pos (by omega)]
  rfl
abbrev s_law_bent : Stmt := top 75
theorem sc_law_bent : FnScope ["source", "order", "row", "n", "x", "turn", "at", "other", "way"] ["source", "order"] (defScope s_law_bent) := ⟨rfl, rfl, rfl, by decide +kernel, rfl, by decide +kernel, by decide +kernel⟩
theorem has_bent (O : OwnF K mg "_law_bent" s_law_bent) (B : Bl mg) (h_law_take : HasF P w K mg base CX0 1 "_law_take" ["source", "top"] spTake) (h_law_one : HasF P w K mg base CX0 2 "_law_one" ["source", "things"] (spOne K)) : HasF P w K mg base CX0 3 "_law_bent" ["source", "order"] (spBe K) := by
  refine has0 O sc_law_bent (fun _ _ _ _ _ _ us hl => match us, hl with | [_, _], _ => rfl) (fun vs H Q E h => ?_) (fun f cdv A outer s_ H vs Q E hr h => ?_)
  · obtain ⟨a, po, is, rfl, _⟩ := h
    rfl
  obtain ⟨a, po, is, rfl, hS, hO, h0, h100, q⟩ := h
  have li : (is.map V.int).length = is.length := List.length_map _
  refine ⟨_, (pss_cons (ps_par (i := 2) (j := 3) (by rfl) sc_law_bent.nd rfl rfl (by decide) rfl rfl (pa_cons (pe_lc (own := [("x", 4)]) (g := gName 4) (tt := tYes) rfl sc_law_bent.nd (pi_tupK K (pv 1)) (blkOk_by (own := [("x", 4)]) (N := ["source", "order", "row", "n", "x", "turn", "at", "other", "way"]) (sc := defScope s_law_bent) (by decide +kernel)) (fun _ _ _ _ _ => (pg_name (i := 4) sc_law_bent.nd rfl (by first | exact Or.inl rfl | exact Or.inr rfl))) (fun _ _ _ _ _ => pts_nil) (fun _ _ _ _ _ => (pv 4))) (pa_cons (pe_callB (kLen K) (by rfl) B.len (by decide +kernel) (pa_cons (pv 1) pa_nil)) pa_nil)) (by rfl)) (pss_cons (ps_for PassesOwn.never rfl (pi_range1 (by rfl) B.range (pa_cons (pe_op (kAdd K) pe_int (pe_callH h_law_take (hr.mono (by first | decide | omega)) (by rfl) pass0 (pa_cons (pv 0) (pa_cons pe_int pa_nil)))) pa_nil)) (pg_name (i := 5) sc_law_bent.nd rfl (by first | exact Or.inl rfl | exact Or.inr rfl)) (pss_cons (ps_par (i := 6) (j := 7) (by rfl) sc_law_bent.nd rfl rfl (by decide) rfl rfl (pa_cons (pe_callH h_law_take (hr.mono (by first | decide | omega)) (by rfl) pass0 (pa_cons (pv 0) (pa_cons (pe_callB (max2U rfl) (by rfl) B.max (by decide +kernel) (pa_cons pe_int (pa_cons (pe_callB (kLen K) (by rfl) B.len (by decide +kernel) (pa_cons (pv 2) pa_nil)) pa_nil))) pa_nil))) (pa_cons (pe_callH h_law_take (hr.mono (by first | decide | omega)) (by rfl) pass0 (pa_cons (pv 0) (pa_cons (pe_callB (max2U rfl) (by rfl) B.max (by decide +kernel) (pa_cons pe_int (pa_cons (pe_callB (kLen K) (by rfl) B.len (by decide +kernel) (pa_cons (pv 2) pa_nil)) pa_nil))) pa_nil))) pa_nil)) (by rfl)) (pss_cons (ps_par (i := 4) (j := 8) (by rfl) sc_law_bent.nd rfl rfl (by decide) rfl rfl (pa_cons (pe_callH h_law_one (hr.mono (by first | decide | omega)) (by rfl) pass0 (pa_cons (pv 0) (pa_cons (pe_lst (pa_cons (pe_callH h_law_take (hr.mono (by first | decide | omega)) (by rfl) pass0 (pa_cons (pv 0) (pa_cons (pv 3) pa_nil))) (pa_cons (pv 3) (pa_cons (pe_un un_neg pe_int) (pa_cons (pe_op powU pe_int pe_int) pa_nil))))) pa_nil))) (pa_cons (pe_callH h_law_take (hr.mono (by first | decide | omega)) (by rfl) pass0 (pa_cons (pv 0) (pa_cons pe_int pa_nil))) pa_nil)) (by rfl)) (pss_cons (ps_if (PW.pt (pw_and (pt_cmpR (kEqG K (hU hr)) (pv 8) pe_int (nomark _)) (pw_and1 (pt_truthK K (pv 2) (by intro _; rfl))))) (pss_one (ps_asg (pv 4) (pg_sub (pv 2) (pv 6) set_list))) pss_nil) (pss_cons (ps_if (PW.pt (pw_and (pt_cmpR (kEqG K (hU hr)) (pv 8) pe_int (nomark _)) (pw_and1 (pt_truthK K (pv 2) (by intro _; rfl))))) (pss_one (ps_asg (pe_tup (pa_cons (pe_ix (kIx K) (pv 2) (pv 7) (fun _ _ => rfl)) (pa_cons (pe_ix (kIx K) (pv 2) (pv 6) (fun _ _ => rfl)) pa_nil))) (pg_tupK (n := 2) K rfl (pgs_cons (pg_sub (pv 2) (pv 6) set_list) (pgs_cons (pg_sub (pv 2) (pv 7) set_list) pgs_nil))))) pss_nil) (pss_cons (ps_if (PW.pt (pw_and (pt_cmpR (kEqG K (hU hr)) (pv 8) pe_int (nomark _)) (pw_and1 (pt_truthK K (pv 2) (by intro _; rfl))))) (pss_one (ps_expr (pe_bmK K PySem.F.plainAttrs_list PySem.F.slot_list_pop PySem.F.type_list_pop mt_popAt (pv 2) (pa_cons (pv 6) pa_nil)))) pss_nil) (pss_one (ps_if (pt_cmpR (kEqG K (hU hr)) (pv 8) pe_int (nomark _)) (pss_one (ps_expr (pe_bmK K PySem.F.plainAttrs_list PySem.F.slot_list_insert PySem.F.type_list_insert mt_insert (pv 2) (pa_cons (pv 6) (pa_cons (pv 4) pa_nil))))) pss_nil)))))))) (pss_one (ps_ret (pe_callTy (kTup K) (by rfl) B.tuple (by decide +kernel) (pa_cons (pv 2) pa_nil)))))), ?_⟩
  refine st0 [some (.ref a), some (.ref po), none, none, none, none, none, none, none] rfl ?_
  walk_at "go"
  try refine rd_itT hO ?_
  intro D hD
  refine lc_tup (xs := is.map V.int) (fun i H' => H' D = some (.lst ((is.take i).map V.int)) ∧ Same H H') ⟨upd_same, Same.upd_new (Same.refl H) hD⟩ ?_ ?_ ?_
  · rintro i H' hi ⟨f1, f2⟩
    exact Ext.of_same f2 _ _ hO
  · rintro i x H' hx ⟨f1, f2⟩
    obtain ⟨z, hz, rfl⟩ : ∃ z, is[i]? = some z ∧ x = .int z := by
      rw [List.getElem?_map, Option.map_eq_some_iff] at hx
      obtain ⟨z, h1, h2⟩ := hx
      exact ⟨z, h1, h2.symm⟩
    have := lt_of_get hz
    walk_at "go"
    refine ⟨rfl, ?_⟩
    walk_at "go"
    refine ⟨_, f1, ?_, ?_, Same.upd_new f2 hD⟩
    · rw [List.length_map, List.length_take]
      exact ls (by omega)
    · rw [upd_same, List.take_add_one, hz, List.map_append] <;> rfl
  rintro H1 ⟨f1, f2⟩
  rw [li, List.take_length] at f1
  have hDa : D ≠ a := hS.ne hD
  have hS1 := hS.same f2
  have sb1 : SB a H H1 := SB.of_same f2
  walk_at "go"
  try refine u_lenT (Ext.of_same f2 _ _ hO) ?_
  rw [li]
  walk_at "go"
  refine use_take hS1 (by omega) (by omega) fun H2 r2 s2 hS2 r20 r21 => ?_
  have f3 := s2 _ _ hDa f1
  have sb2 := sb1.trans s2
  walk_at "go"
  refine forR (fun t σ H' => ∃ (o4 o5 o6 o7 o8 : Option V) (js : List Int), σ = [some (.ref a), some (.ref po), some (.ref D), some (.int (is.length : Int)), o4, o5, o6, o7, o8] ∧ SB a H H' ∧ Src H' a ∧ H' D = some (.lst (js.map V.int)) ∧ js.length ≤ is.length + t)
    ⟨_, _, _, _, _, is, rfl, sb2, hS2, f3, by omega⟩ ?_ ?_
  · clear f1 f2 f3 hS1 hS2 sb1 sb2 s2
    rintro t σ H3 ht ⟨o4, o5, o6, o7, o8, js, rfl, k1, k2, k3, k4⟩
    have ht2 : t < 3 := by
      have ht3 : t < (1 + r2).toNat := ht
      omega
    have lj : (js.map V.int).length = js.length := List.length_map _
    obtain ⟨m, em, m1, m2, m3⟩ : ∃ m : Int, (if (js.length : Int) > 1 then (js.length : Int) else 1) = m ∧ 1 ≤ m ∧ m ≤ 200 ∧ (js ≠ [] → m = js.length) := by
      refine ⟨_, rfl, ?_⟩
      split
      · exact ⟨by omega, by omega, fun _ => rfl⟩
      · refine ⟨by omega, by omega, fun hne => ?_⟩
        have := List.length_pos_iff.mpr hne
        omega
    walk_at "go"
    rw [lj, em]
    refine use_take k2 (by omega) (by omega) fun H4 at_ s4 hS4 a0 a1 => ?_
    have k34 := s4 _ _ hDa k3
    have k14 := k1.trans s4
    clear k1 k2 k3 s4
    walk_at "go"
    rw [lj, em]
    refine use_take hS4 (by omega) (by omega) fun H5 ot s5 hS5 b0 b1 => ?_
    have k35 := s5 _ _ hDa k34
    have k15 := k14.trans s5
    clear k14 k34 hS4 s5
    walk_at "go"
    refine use_take hS5 (by omega) (by omega) fun H6 r6 s6 hS6 c0 c1 => ?_
    have k36 := s6 _ _ hDa k35
    have k16 := k15.trans s6
    clear k15 k35 hS5 s6
    walk_at "go"
    refine ⟨lk rfl, fun pl hpl => ?_⟩
    have hS7 := hS6.new (o := .lst [.int r6, .int (is.length : Int), .int (-1), .int (10 ^ (20 : Int).toNat)]) hpl
    have hpa : pl ≠ a := hS6.ne hpl
    have k37 : (upd H6 pl (.lst [.int r6, .int (is.length : Int), .int (-1), .int (10 ^ (20 : Int).toNat)])) D = some (.lst (js.map V.int)) := by rw [upd_ne (ne_of_none k36 hpl)]; exact k36
    have k17 := k16.new (o := .lst [.int r6, .int (is.length : Int), .int (-1), .int (10 ^ (20 : Int).toNat)]) hpl
    walk_at "go"
    refine use_one hS7 (SqL.of upd_same) hpa (by simp) (by simp) fun H8 v s8 hS8 hv => ?_
    obtain ⟨z, rfl⟩ : ∃ z, v = .int z := by
      simp only [List.mem_cons, List.not_mem_nil, or_false] at hv
      rcases hv with rfl | rfl | rfl | rfl
      · exact ⟨_, rfl⟩
      · exact ⟨_, rfl⟩
      · exact ⟨_, rfl⟩
      · exact ⟨_, rfl⟩
    have k38 := s8 _ _ hDa k37
    have k18 := k17.trans s8
    clear hv s8 hS7 k37 k17 hpl k16 k36 hS6
    walk_at "go"
    refine use_take hS8 (by omega) (by omega) fun H9 wy s9 hS9 d0 d1 => ?_
    have k39 := s9 _ _ hDa k38
    have k19 := k18.trans s9
    clear s9 hS8 k38 k18
    obtain ⟨at_, rfl⟩ : ∃ k : Nat, at_ = k := ⟨at_.toNat, by omega⟩
    obtain ⟨ot, rfl⟩ : ∃ k : Nat, ot = k := ⟨ot.toNat, by omega⟩
    walk_at "go"
    -- nothing changed
    have idle : ∃ (o4 o5 o6 o7 o8 : Option V) (js' : List Int), ([some (.ref a), some (.ref po), some (.ref D), some (.int (is.length : Int)), some (.int z), some (.int (0 + (t : Int))), some (.int (at_ : Int)), some (.int (ot : Int)), some (.int wy)] : St) = [some (.ref a), some (.ref po), some (.ref D), some (.int (is.length : Int)), o4, o5, o6, o7, o8] ∧ SB a H H9 ∧ Src H9 a ∧ H9 D = some (.lst (js'.map V.int)) ∧ js'.length ≤ is.length + (t + 1) :=
      ⟨_, _, _, _, _, js, rfl, k19, hS9, k39, by omega⟩
    have sset : ∀ (js' : List Int), js'.length ≤ is.length + (t + 1) → ∃ (o4 o5 o6 o7 o8 : Option V) (js2 : List Int), ([some (.ref a), some (.ref po), some (.ref D), some (.int (is.length : Int)), some (.int z), some (.int (0 + (t : Int))), some (.int (at_ : Int)), some (.int (ot : Int)), some (.int wy)] : St) = [some (.ref a), some (.ref po), some (.ref D), some (.int (is.length : Int)), o4, o5, o6, o7, o8] ∧ SB a H (upd H9 D (.lst (js'.map V.int))) ∧ Src (upd H9 D (.lst (js'.map V.int))) a ∧ (upd H9 D (.lst (js'.map V.int))) D = some (.lst (js2.map V.int)) ∧ js2.length ≤ is.length + (t + 1) :=
      fun js' hl => ⟨_, _, _, _, _, js', rfl, k19.upd_new hD, hS9.set hDa, upd_same, hl⟩
    have hne : js ≠ [] → at_ < js.length ∧ ot < js.length := fun hn => by
      have := m3 hn
      omega
    have emp : ∀ (x : Bool), js = [] → (!(js.map V.int).isEmpty) = false := fun _ e => by rw [e] <;> rfl
    have nem : js ≠ [] → (!(js.map V.int).isEmpty) = true := fun hn => by
      cases js with
      | nil => exact absurd rfl hn
      | cons c r => rfl
    have cw : wy = 0 ∨ wy = 1 ∨ wy = 2 ∨ wy = 3 := by omega
    rcases cw with cw | cw | cw | cw
    · rw [decide_eq_true cw]
      walk_at "go"
      by_cases hn : js = []
      · rw [emp true hn]
        walk_at "go"
        rw [decide_eq_false (show ¬ wy = 1 by omega)]
        walk_at "go"
        rw [decide_eq_false (show ¬ wy = 2 by omega)]
        walk_at "go"
        rw [decide_eq_false (show ¬ wy = 3 by omega)]
        walk_at "go"
        exact idle
      · rw [nem hn]
        walk_at "go"
        refine u_setL k39 (ixN_nat (by rw [lj]; exact (hne hn).1)) ?_
        rw [set_ints]
        walk_at "go"
        rw [decide_eq_false (show ¬ wy = 1 by omega)]
        walk_at "go"
        rw [decide_eq_false (show ¬ wy = 2 by omega)]
        walk_at "go"
        rw [decide_eq_false (show ¬ wy = 3 by omega)]
        walk_at "go"
        exact sset _ (by rw [List.length_set]; omega)
    · rw [decide_eq_false (show ¬ wy = 0 by omega)]
      walk_at "go"
      rw [decide_eq_true cw]
      walk_at "go"
      by_cases hn : js = []
      · rw [emp true hn]
        walk_at "go"
        rw [decide_eq_false (show ¬ wy = 2 by omega)]
        walk_at "go"
        rw [decide_eq_false (show ¬ wy = 3 by omega)]
        walk_at "go"
        exact idle
      · rw [nem hn]
        obtain ⟨y1, hy1⟩ : ∃ y, js[ot]? = some y := ⟨_, List.getElem?_eq_getElem (hne hn).2⟩
        obtain ⟨y2, hy2⟩ : ∃ y, js[at_]? = some y := ⟨_, List.getElem?_eq_getElem (hne hn).1⟩
        walk_at "go"
        refine u_ixL (SqL.of k39) (atI_ints hy1) ?_
        walk_at "go"
        refine u_ixL (SqL.of k39) (atI_ints hy2) ?_
        walk_at "go"
        refine ⟨lk rfl, fun pt hpt => ?_⟩
        have k310 : (upd H9 pt (.tup [V.int y1, .int y2])) D = some (.lst (js.map V.int)) := by rw [upd_ne (ne_of_none k39 hpt)]; exact k39
        have k110 := k19.new (o := .tup [V.int y1, .int y2]) hpt
        have hS10 := hS9.new (o := .tup [V.int y1, .int y2]) hpt
        have tpt : SqT K (upd H9 pt (.tup [V.int y1, .int y2])) pt [V.int y1, .int y2] := SqT.of upd_same
        generalize upd H9 pt (.tup [V.int y1, .int y2]) = HA at *
        walk_at "go"
        refine u_setL k310 (ixN_nat (by rw [lj]; exact (hne hn).1)) ?_
        rw [set_ints]
        walk_at "go"
        refine u_setL upd_same (ixN_nat (by rw [List.length_map, List.length_set]; exact (hne hn).2)) ?_
        rw [set_ints]
        walk_at "go"
        rw [decide_eq_false (show ¬ wy = 2 by omega)]
        walk_at "go"
        rw [decide_eq_false (show ¬ wy = 3 by omega)]
        walk_at "go"
        exact ⟨_, _, _, _, _, (js.set at_ y1).set ot y2, rfl, (k110.upd_new hD).upd_new hD, (hS10.set hDa).set hDa, upd_same, by rw [List.length_set, List.length_set]; omega⟩
    · rw [decide_eq_false (show ¬ wy = 0 by omega)]
      walk_at "go"
      rw [decide_eq_false (show ¬ wy = 1 by omega)]
      walk_at "go"
      rw [decide_eq_true cw]
      walk_at "go"
      by_cases hn : js = []
      · rw [emp true hn]
        walk_at "go"
        rw [decide_eq_false (show ¬ wy = 3 by omega)]
        walk_at "go"
        exact idle
      · rw [nem hn]
        obtain ⟨y2, hy2⟩ : ∃ y, js[at_]? = some y := ⟨_, List.getElem?_eq_getElem (hne hn).1⟩
        walk_at "go"
        refine ⟨D, _, (at_ : Int), at_, _, rfl, rfl, k39, by omega, by omega, ?_, (by rw [List.getElem?_map, hy2] <;> rfl), ?_⟩
        · have := (hne hn).1
          unfold seqIndex?
          rw [lj]
          simp
          omega
        rw [erase_map]
        walk_at "go"
        rw [decide_eq_false (show ¬ wy = 3 by omega)]
        walk_at "go"
        refine sset _ ?_
        have := List.length_eraseIdx_le js at_
        omega
    · rw [decide_eq_false (show ¬ wy = 0 by omega)]
      walk_at "go"
      rw [decide_eq_false (show ¬ wy = 1 by omega)]
      walk_at "go"
      rw [decide_eq_false (show ¬ wy = 2 by omega)]
      walk_at "go"
      rw [decide_eq_true cw]
      walk_at "go"
      refine ⟨D, _, (at_ : Int), _, rfl, rfl, k39, ?_, by omega, by omega, ?_⟩
      · rw [lj]
        exact ls (by omega)
      rw [show ((at_ : Int)).toNat = at_ by omega, ← List.map_take, ← List.map_drop, show [V.int z] = [z].map V.int from rfl, ← List.map_append, ← List.map_append]
      walk_at "go"
      refine sset _ ?_
      rw [List.length_append, List.length_append, List.length_take, List.length_drop, List.length_singleton]
      omega
  · rintro σ H' ⟨o4, o5, o6, o7, o8, js, rfl, k1, k2, k3, k4⟩
    have kl : js.length ≤ 200 := by
      have : (1 + r2).toNat ≤ 3 := by omega
      omega
    walk_at "go"
    refine u_tupL (SqL.of k3) fun p hp => ?_
    exact q _ p js (k1.new hp) (k2.new hp) (SqT.of upd_same) kl
end
end Mine

/-! ### JO -/
namespace Mine
open PySem PySem.Spec L2
local macro_rules | `(tactic| walk_at "st") => `(tactic| first
  | ((with_reducible apply rd_var); exact rfl)
  | (with_reducible apply rd_c)
  | (with_reducible apply rd_seq)
  | (with_reducible apply rd_asg)
  | (with_reducible apply rd_gname)
  | (with_reducible apply rd_op)
  | (with_reducible apply rd_cb)
  | (with_reducible apply rd_cons)
  | (with_reducible apply rd_nil)
  | (with_reducible apply rd_if)
  | (with_reducible apply rd_test)
  | (with_reducible apply rd_bl)
  | (with_reducible apply rd_retE)
  | (with_reducible apply rd_ret)
  | (with_reducible apply rd_call)
  | (with_reducible apply rd_tup)
  | (with_reducible apply rd_lst)
  | (with_reducible apply rd_drop)
  | (with_reducible apply rd_next)
  | (with_reducible apply rd_ife)
  | (with_reducible apply rd_gsub)
  | (with_reducible apply rd_par)
  | (with_reducible apply rd_par_end)
  | (with_reducible apply rd_un)
  | (with_reducible apply rd_and)
  | (with_reducible apply rd_or)
  | (with_reducible apply rd_not)
  | (with_reducible apply rd_andV)
  | (with_reducible apply rd_orV)
  | (with_reducible apply rd_notV)
  | (with_reducible apply rd_chain)
  | (with_reducible apply rd_tB)
  | (with_reducible apply rd_brk)
  | (with_reducible apply rd_ct)
  | (with_reducible apply u_add)
  | (with_reducible apply u_sub)
  | (with_reducible apply u_lt)
  | (with_reducible apply u_le)
  | (with_reducible apply u_gt)
  | (with_reducible apply u_ge)
  | (with_reducible apply u_eqI)
  | (with_reducible apply u_eqS)
  | (with_reducible apply u_neI)
  | (with_reducible apply u_int)
  | (with_reducible apply u_intB)
  | (with_reducible apply u_max)
  | (with_reducible apply u_min)
  | (with_reducible apply u_neg)
  | ((with_reducible apply u_mod); focus first | assumption | decide | omega)
  | ((with_reducible apply u_div); focus first | decide | omega | (constructor <;> first | assumption | omega))
  | ((with_reducible apply u_mul); focus first | exact Or.inl (by omega) | exact Or.inr (by omega) | exact Or.inl (by decide) | exact Or.inr (by decide))
  | ((with_reducible apply u_ixL); (focus (first | assumption | exact SqL.of (by assumption) | exact SqL.of upd_same)); exact rfl)
  | ((with_reducible apply u_lenL); focus (first | assumption | exact SqL.of (by assumption) | exact SqL.of upd_same))
  | ((with_reducible apply u_lenT); focus (first | assumption | exact SqT.of (by assumption) | exact SqT.of upd_same))
  | ((with_reducible apply u_setL); (focus (first | assumption | exact upd_same)); exact rfl)
  | (with_reducible apply rd_chain3)
  | (with_reducible apply rd_tru)
  | (with_reducible apply rd_truB)
  | ((with_reducible apply rd_truL); focus (first | assumption | exact SqL.of (by assumption) | exact SqL.of upd_same))
  | (with_reducible apply rd_bm)
  | (with_reducible apply rd_bm0)
  | ((with_reducible apply rd_tyL); focus (first | exact SqL.of (by assumption) | exact SqL.of upd_same))
  | (with_reducible apply u_min3)
  | (with_reducible apply rd_rev)
  | (with_reducible apply rd_iList)
  | (with_reducible apply rd_iTup)
  | (with_reducible apply rd_for)
  | (with_reducible apply rd_rng1)
  | (with_reducible apply rd_rng2)
  | ((with_reducible apply rd_rng1e); (focus omega); (focus omega))
  | ((with_reducible apply rd_rng2e); (focus omega))
  | (with_reducible apply rd_gcons)
  | (with_reducible apply rd_gnil)
  | (with_reducible apply rd_retN)
  | (with_reducible apply g_eqI)
  | (with_reducible apply g_eqS)
  | (with_reducible apply g_neI)
  | (with_reducible apply g_neS)
  | (with_reducible apply g_neB)
  | (with_reducible apply rd_xf)
  | (with_reducible apply rd_raiseE)
  | (with_reducible apply rd_callS)
  | (with_reducible apply u_inD)
  | (with_reducible apply u_notInD)
  | (with_reducible apply u_inS)
  | (with_reducible apply u_notInS)
  | (with_reducible apply rd_iSeq)
  | ((with_reducible apply rd_seqL); (focus first | assumption | exact SqL.of (by assumption) | exact SqL.of upd_same))
  | ((with_reducible apply rd_seqT); (focus first | assumption | exact SqT.of (by assumption) | exact SqT.of upd_same))
  | (with_reducible apply rd_istr)
  | (with_reducible apply rd_istrE)
  | ((with_reducible apply u_isi); (focus (first | exact Or.inl rfl | exact Or.inr (Or.inl rfl) | exact Or.inr (Or.inr (Or.inl rfl)) | exact Or.inr (Or.inr (Or.inr rfl)))); (focus first | assumption | exact Rp.int _ | exact Rp.str _))
  | ((with_reducible apply rd_itL); (focus first | assumption | exact SqL.of (by assumption) | exact SqL.of upd_same))
  | ((with_reducible apply rd_itT); (focus first | assumption | exact SqT.of (by assumption) | exact SqT.of upd_same))
  | (with_reducible apply rd_lc)
  | (with_reducible apply rd_yes)
  | ((with_reducible apply u_pow); (focus (exact ⟨by decide, by decide, by decide⟩)))
  | (with_reducible apply u_mul; focus exact Or.inr cm)
  | (with_reducible apply rd_par3)
  | (with_reducible apply rd_par3_end)
  | ((with_reducible apply rd_aug); exact rfl)
  | (with_reducible apply rd_ipI)
  | (with_reducible apply rd_enA)
  | (with_reducible apply rd_revR)
  | (with_reducible apply rd_rg1)
  | (with_reducible apply rd_rng3)
  | ((with_reducible apply u_enT); (focus first | assumption | exact SqT.of (by assumption) | exact SqT.of upd_same))
  | ((with_reducible apply u_enL); (focus first | assumption | exact SqL.of (by assumption) | exact SqL.of upd_same))
  | (with_reducible apply rd_zip)
  | (with_reducible apply rd_lc2)
  | ((with_reducible apply rd_gtup); (focus first | assumption | exact SqT.of (by assumption) | exact SqT.of upd_same); (focus rfl))
  | (with_reducible apply rd_dnew)
  | (with_reducible apply rd_din)
  | (with_reducible apply rd_dget)
  | (with_reducible apply rd_dput)
  | (with_reducible apply rd_disp1)
  | (with_reducible apply rd_sl)
  | (with_reducible apply rd_part)
  | (with_reducible apply rd_partI)
  | (with_reducible apply rd_nopart)
  | (with_reducible apply u_isB)
  | (with_reducible apply u_repB)
  | (with_reducible apply u_notB)
  | (with_reducible apply rd_dc)
  | (with_reducible apply rd_bmT)
  | (with_reducible apply rd_tupF)
  | ((with_reducible apply rd_tyF); (focus assumption))
  | (with_reducible apply iteT)
  | (with_reducible apply iteF))
local macro_rules | `(tactic| walk_at "go") => `(tactic| repeat (walk_at "st"))
local macro_rules | `(tactic| walk_at "sp") => `(tactic| (first | refine rd_split (fun c => ?_) (fun c => ?_) | refine rd_splitN (fun c => ?_) (fun c => ?_) | refine rd_splitB (fun c => ?_) (fun c => ?_)))
local macro_rules | `(tactic| walk_at "nx") => `(tactic| repeat (first | (with_reducible apply iteF) | (with_reducible apply iteT) | (with_reducible apply rd_next)))

section
variable {P : Program} {w : World} {K : PySem.W.Frag} {mg : Str → Option Value} {base : Heap}
def spLt (K : PySem.W.Frag) : Sp := fun vs H Q _ => ∃ (v : V) (j : Jn) (po : Addr) (is : List Int), vs = [v, .ref po] ∧ Rp K H v j.py ∧ j.ok ∧ j.cnt ≤ 40 ∧ walk 42 [j.py] 0 = none ∧ SqT K H po (is.map V.int) ∧ is.length ≤ 1000 ∧ ∀ H', Same H H' → Q (.int (dueO (kinN (j.ups (-1) 0)) j.cnt is [] 0)) H'
theorem use_lt {K : PySem.W.Frag} {v : V} {j : Jn} {po : Addr} {is : List Int} {H : Hp} {Q : VK} {E : XK} (r : Rp K H v j.py) (h : j.ok) (h1 : j.cnt ≤ 40) (h2 : walk 42 [j.py] 0 = none) (h3 : SqT K H po (is.map V.int)) (h4 : is.length ≤ 1000) (q : ∀ H', Same H H' → Q (.int (dueO (kinN (j.ups (-1) 0)) j.cnt is [] 0)) H') : spLt K [v, .ref po] H Q E := ⟨v, j, po, is, rfl, r, h, h1, h2, h3, h4, q⟩
theorem kin_lt (j : Jn) : ∀ x, x < j.cnt → ∀ y ∈ kinN (j.ups (-1) 0) x, y < j.cnt := fun x hx y hy => by
  unfold kinN at hy
  rw [List.mem_filter, List.mem_range, ups_len] at hy
  exact hy.1
theorem of_due (j : Jn) (is : List Int) : ofB (kinN (j.ups (-1) 0)) (is.map PyData.int) (List.replicate j.cnt false) 0 = dueO (kinN (j.ups (-1) 0)) j.cnt is [] 0 := by
  have := due_is (kin_lt j) is _ _ (Made.start j.cnt)
  rwa [List.length_nil] at this
theorem vd_dueN {j : Jn} {l : List Nat} (h : Vd (kinN (j.ups (-1) 0)) j.cnt l) : dueO (kinN (j.ups (-1) 0)) j.cnt (l.map fun (k : Nat) => (k : Int)) [] 0 = -1 := vd_due h l [] rfl
abbrev s_law_told : Stmt := top 76
theorem sc_law_told : FnScope ["program", "order", "raised"] ["program", "order"] (defScope s_law_told) := ⟨rfl, rfl, rfl, by decide +kernel, rfl, by decide +kernel, by decide +kernel⟩
theorem has_law_told {fI cO cR : Addr} (O : OwnF K mg "_law_told" s_law_told) (M_Refused : ErrC K mg fI "Refused" cR) (M_BadOrder : ErrC K mg fI "BadOrder" cO) (X : PySem.W.exmOne K (.ref cO) (.ref cO) = some true) (h_branchwise : HasF P w K mg base (L2.CX P w) 13 "branchwise" ["program", "order"] (spBw K cO)) : HasF P w K mg base CX0 14 "_law_told" ["program", "order"] (spLt K) := by
  refine has0 O sc_law_told (fun _ _ _ _ _ _ us hl => match us, hl with | [_, _], _ => rfl) (fun vs H Q E h => ?_) (fun f cdv A outer s_ H vs Q E hr h => ?_)
  · obtain ⟨v, j, po, is, rfl, _⟩ := h
    rfl
  obtain ⟨v, j, po, is, rfl, r, hok, h40, hwk, hO, h1000, q⟩ := h
  refine ⟨_, (pss_cons (ps_try_mix rfl rfl takes0 (fun W pn xe tk _ => (pss_one (ps_expr (pe_callHS h_branchwise (hr.mono (by first | decide | omega)) (by rfl) (fun σ => passAt tk σ) (pa_cons (pv 0) (pa_cons (pv 1) pa_nil)))))) K rfl (Hds.named (i := 2) ⟨rfl, by decide, Or.inl M_BadOrder.g⟩ sc_law_told.nd rfl rfl (fun a oe cls d pn hz hf => (pss_one (ps_ret (pe_xf M_BadOrder.f M_BadOrder.n hz hf (pv 2))))) (Hds.plain ⟨rfl, by decide, Or.inl M_Refused.g⟩ (fun a oe cls d pn hz hf => (pss_one (ps_ret (pe_un un_neg pe_int)))) Hds.nil))) (pss_one (ps_ret (pe_un un_neg pe_int)))), ?_⟩
  refine st0 [some v, some (.ref po), none] rfl ?_
  walk_at "go"
  refine ⟨v, j, po, is, rfl, r, hok, h40, hwk, hO, h1000, fun n en n0 H1 d1 s1 e1 => ?_, fun l hl hV H1 s1 => ?_⟩
  · rw [of_due] at en
    rw [en] at q
    refine ⟨true, X, fun _ a ha => ?_, fun z => nomatch z⟩
    walk_at "go"
    refine u_xf (by rfl) e1 ?_
    exact q _ s1
  · rw [hl, vd_dueN hV] at q
    walk_at "go"
    exact q _ s1
end
end Mine

/-! ### JP -/
namespace Mine
open PySem PySem.Spec L2
local macro_rules | `(tactic| walk_at "st") => `(tactic| first
  | ((with_reducible apply rd_var); exact rfl)
  | (with_reducible apply rd_c)
  | (with_reducible apply rd_seq)
  | (with_reducible apply rd_asg)
  | (with_reducible apply rd_gname)
  | (with_reducible apply rd_op)
  | (with_reducible apply rd_cb)
  | (with_reducible apply rd_cons)
  | (with_reducible apply rd_nil)
  | (with_reducible apply rd_if)
  | (with_reducible apply rd_test)
  | (with_reducible apply rd_bl)
  | (with_reducible apply rd_retE)
  | (with_reducible apply rd_ret)
  | (with_reducible apply rd_call)
  | (with_reducible apply rd_tup)
  | (with_reducible apply rd_lst)
  | (with_reducible apply rd_drop)
  | (with_reducible apply rd_next)
  | (with_reducible apply rd_ife)
  | (with_reducible apply rd_gsub)
  | (with_reducible apply rd_par)
  | (with_reducible apply rd_par_end)
  | (with_reducible apply rd_un)
  | (with_reducible apply rd_and)
  | (with_reducible apply rd_or)
  | (with_reducible apply rd_not)
  | (with_reducible apply rd_andV)
  | (with_reducible apply rd_orV)
  | (with_reducible apply rd_notV)
  | (with_reducible apply rd_chain)
  | (with_reducible apply rd_tB)
  | (with_reducible apply rd_brk)
  | (with_reducible apply rd_ct)
  | (with_reducible apply u_add)
  | (with_reducible apply u_sub)
  | (with_reducible apply u_lt)
  | (with_reducible apply u_le)
  | (with_reducible apply u_gt)
  | (with_reducible apply u_ge)
  | (with_reducible apply u_eqI)
  | (with_reducible apply u_eqS)
  | (with_reducible apply u_neI)
  | (with_reducible apply u_int)
  | (with_reducible apply u_intB)
  | (with_reducible apply u_max)
  | (with_reducible apply u_min)
  | (with_reducible apply u_neg)
  | ((with_reducible apply u_mod); focus first | assumption | decide | omega)
  | ((with_reducible apply u_div); focus first | decide | omega | (constructor <;> first | assumption | omega))
  | ((with_reducible apply u_mul); focus first | exact Or.inl (by omega) | exact Or.inr (by omega) | exact Or.inl (by decide) | exact Or.inr (by decide))
  | ((with_reducible apply u_ixL); (focus (first | assumption | exact SqL.of (by assumption) | exact SqL.of upd_same)); exact rfl)
  | ((with_reducible apply u_lenL); focus (first | assumption | exact SqL.of (by assumption) | exact SqL.of upd_same))
  | ((with_reducible apply u_lenT); focus (first | assumption | exact SqT.of (by assumption) | exact SqT.of upd_same))
  | ((with_reducible apply u_setL); (focus (first | assumption | exact upd_same)); exact rfl)
  | (with_reducible apply rd_chain3)
  | (with_reducible apply rd_tru)
  | (with_reducible apply rd_truB)
  | ((with_reducible apply rd_truL); focus (first | assumption | exact SqL.of (by assumption) | exact SqL.of upd_same))
  | (with_reducible apply rd_bm)
  | (with_reducible apply rd_bm0)
  | ((with_reducible apply rd_tyL); focus (first | exact SqL.of (by assumption) | exact SqL.of upd_same))
  | (with_reducible apply u_min3)
  | (with_reducible apply rd_rev)
  | (with_reducible apply rd_iList)
  | (with_reducible apply rd_iTup)
  | (with_reducible apply rd_for)
  | (with_reducible apply rd_rng1)
  | (with_reducible apply rd_rng2)
  | ((with_reducible apply rd_rng1e); (focus omega); (focus omega))
  | ((with_reducible apply rd_rng2e); (focus omega))
  | (with_reducible apply rd_gcons)
  | (with_reducible apply rd_gnil)
  | (with_reducible apply rd_retN)
  | (with_reducible apply g_eqI)
  | (with_reducible apply g_eqS)
  | (with_reducible apply g_neI)
  | (with_reducible apply g_neS)
  | (with_reducible apply g_neB)
  | (with_reducible apply rd_xf)
  | (with_reducible apply rd_raiseE)
  | (with_reducible apply rd_callS)
  | (with_reducible apply u_inD)
  | (with_reducible apply u_notInD)
  | (with_reducible apply u_inS)
  | (with_reducible apply u_notInS)
  | (with_reducible apply rd_iSeq)
  | ((with_reducible apply rd_seqL); (focus first | assumption | exact SqL.of (by assumption) | exact SqL.of upd_same))
  | ((with_reducible apply rd_seqT); (focus first | assumption | exact SqT.of (by assumption) | exact SqT.of upd_same))
  | (with_reducible apply rd_istr)
  | (with_reducible apply rd_istrE)
  | ((with_reducible apply u_isi); (focus (first | exact Or.inl rfl | exact Or.inr (Or.inl rfl) | exact Or.inr (Or.inr (Or.inl rfl)) | exact Or.inr (Or.inr (Or.inr rfl)))); (focus first | assumption | exact Rp.int _ | exact Rp.str _))
  | ((with_reducible apply rd_itL); (focus first | assumption | exact SqL.of (by assumption) | exact SqL.of upd_same))
  | ((with_reducible apply rd_itT); (focus first | assumption | exact SqT.of (by assumption) | exact SqT.of upd_same))
  | (with_reducible apply rd_lc)
  | (with_reducible apply rd_yes)
  | ((with_reducible apply u_pow); (focus (exact ⟨by decide, by decide, by decide⟩)))
  | (with_reducible apply u_mul; focus exact Or.inr cm)
  | (with_reducible apply rd_par3)
  | (with_reducible apply rd_par3_end)
  | ((with_reducible apply rd_aug); exact rfl)
  | (with_reducible apply rd_ipI)
  | (with_reducible apply rd_enA)
  | (with_reducible apply rd_revR)
  | (with_reducible apply rd_rg1)
  | (with_reducible apply rd_rng3)
  | ((with_reducible apply u_enT); (focus first | assumption | exact SqT.of (by assumption) | exact SqT.of upd_same))
  | ((with_reducible apply u_enL); (focus first | assumption | exact SqL.of (by assumption) | exact SqL.of upd_same))
  | (with_reducible apply rd_zip)
  | (with_reducible apply rd_lc2)
  | ((with_reducible apply rd_gtup); (focus first | assumption | exact SqT.of (by assumption) | exact SqT.of upd_same); (focus rfl))
  | (with_reducible apply rd_dnew)
  | (with_reducible apply rd_din)
  | (with_reducible apply rd_dget)
  | (with_reducible apply rd_dput)
  | (with_reducible apply rd_disp1)
  | (with_reducible apply rd_sl)
  | (with_reducible apply rd_part)
  | (with_reducible apply rd_partI)
  | (with_reducible apply rd_nopart)
  | (with_reducible apply u_isB)
  | (with_reducible apply u_repB)
  | (with_reducible apply u_notB)
  | (with_reducible apply rd_dc)
  | (with_reducible apply rd_bmT)
  | (with_reducible apply rd_tupF)
  | ((with_reducible apply rd_tyF); (focus assumption))
  | (with_reducible apply iteT)
  | (with_reducible apply iteF))
local macro_rules | `(tactic| walk_at "go") => `(tactic| repeat (walk_at "st"))
local macro_rules | `(tactic| walk_at "sp") => `(tactic| (first | refine rd_split (fun c => ?_) (fun c => ?_) | refine rd_splitN (fun c => ?_) (fun c => ?_) | refine rd_splitB (fun c => ?_) (fun c => ?_)))
local macro_rules | `(tactic| walk_at "nx") => `(tactic| repeat (first | (with_reducible apply iteF) | (with_reducible apply iteT) | (with_reducible apply rd_next)))

section
variable {P : Program} {w : World} {K : PySem.W.Frag} {mg : Str → Option Value} {base : Heap}
theorem use_io {K : PySem.W.Frag} {v u : V} {j : Jn} {d : PyData} {H : Hp} {Q : VK} {E : XK} (r : Rp K H v j.py) (g : Fx j) (h1 : j.cnt ≤ 40) (h2 : Rp K H u d) (h3 : ∀ ds, d = .tuple ds → ds.length ≤ 1000) (q : ∀ H', Same H H' → Q (.bl (isOrd j d)) H') : spIo K [v, u] H Q E := ⟨v, u, j, d, rfl, r, g, h1, h2, h3, q⟩
theorem use_ft {K : PySem.W.Frag} {b po : Addr} {rows : List V} {us is : List Int} {H : Hp} {Q : VK} {E : XK} (h : H b = some (.lst rows)) (h1 : Kns us rows H b us.length) (h2 : us.length ≤ 40) (h3 : SqT K H po (is.map V.int)) (h4 : is.length ≤ 1000) (q : ∀ H', Same H H' → Q (.int (dueO (kinN us) us.length is [] 0)) H') : spFt K [.ref b, .ref po] H Q E := ⟨b, po, rows, us, is, rfl, h, h1, h2, h3, h4, q⟩
theorem use_bw {K : PySem.W.Frag} {cO : Addr} {v : V} {j : Jn} {po : Addr} {l : List Nat} {H : Hp} {Q : VK} {E : XK} (r : Rp K H v j.py) (h : j.ok) (h1 : j.cnt ≤ 40) (h2 : walk 42 [j.py] 0 = none) (h3 : SqT K H po (nV l)) (hV : Vd (kinN (j.ups (-1) 0)) j.cnt l) (q : ∀ H', Same H H' → Q (.bl (sbB j l)) H') : spBw K cO [v, .ref po] H Q E := by
  refine ⟨v, j, po, l.map fun (k : Nat) => (k : Int), rfl, r, h, h1, h2, by rw [← nV_ints]; exact h3, ?_, fun n en n0 => ?_, fun l2 e hV2 H' s => ?_⟩
  · rw [List.length_map, hV.len]
    omega
  · rw [of_due, vd_dueN hV] at en
    omega
  · have : l2 = l := by
      have h5 : ∀ a b : List Nat, a.map (fun (k : Nat) => (k : Int)) = b.map (fun (k : Nat) => (k : Int)) → b = a := by
        intro a
        induction a with
        | nil => intro b e; cases b with
          | nil => rfl
          | cons c r => simp at e
        | cons x r ih => intro b e; cases b with
          | nil => simp at e
          | cons c t =>
            simp only [List.map_cons, List.cons.injEq] at e
            rw [ih t e.2, show c = x by omega]
      exact h5 _ _ e
    subst this
    exact q H' s
theorem cut_init (xs : List V) : cutV xs none (some (-1)) = xs.dropLast := by
  unfold cutV
  rw [HT.sIx_none, List.drop_zero, Nat.sub_zero, List.dropLast_eq_take]
  congr 1
  unfold HT.sIx
  simp
  omega
theorem ofB_ints {kin : Nat → List Nat} : ∀ (ds : List PyData) (bs : List Bool) (i : Nat), (∃ d ∈ ds, ∀ z, d ≠ .int z) → ofB kin ds bs i ≠ -1
  | [], bs, i, ⟨d, h, _⟩ => by cases h
  | d :: r, bs, i, h => by
    rw [ofB_cons]
    by_cases c : mayB kin bs d = true
    · rw [if_pos c]
      refine ofB_ints r _ _ ?_
      obtain ⟨e, he, hz⟩ := h
      rcases List.mem_cons.mp he with rfl | he
      · obtain ⟨x, hx, _⟩ := mayB_int c
        exact absurd hx (hz _)
      · exact ⟨e, he, hz⟩
    · rw [if_neg c]
      omega
theorem isOrd_odd {j : Jn} {ds : List PyData} (h : ∃ d ∈ ds, ∀ z, d ≠ .int z) : isOrd j (.tuple ds) = false := by
  simp only [isOrd]
  rw [decide_eq_false (ofB_ints ds _ _ h), Bool.and_false]
theorem isOrd_due {j : Jn} {is : List Int} (h : j.fault = none) : isOrd j (.tuple (is.map PyData.int)) = decide (dueO (kinN (j.ups (-1) 0)) j.cnt is [] 0 = -1) := by
  simp only [isOrd, h, Option.isNone_none, Bool.true_and]
  rw [of_due]
def unl : Jn := .mk "add" [] [.mk "row" [.int 1] [], .mk "row" [.int 1, .int 2] []]
theorem unl_cnt : unl.cnt = 3 := by simp [unl, Jn.cnt, Jn.cnts]
theorem unl_fx : Fx unl := by
  refine ⟨?_, fun x hx => ?_⟩
  · have ks : ∀ z : Str, z = "add" ∨ z = "row" → okS z := fun z h => by
      rcases h with rfl | rfl
      · exact okS_of (by decide +kernel) (by decide +kernel)
      · exact okS_of (by decide +kernel) (by decide +kernel)
    simp only [unl, Jn.ok, Jn.oks]
    refine ⟨ks _ (.inl rfl), by decide, fun d h => (by cases h), by decide, ⟨ks _ (.inr rfl), by decide, fun d h => ?_, by decide, trivial⟩, ⟨ks _ (.inr rfl), by decide, fun d h => ?_, by decide, trivial⟩, trivial⟩
    · simp only [List.mem_singleton] at h
      subst h
      simp only [flatD]
    · simp only [List.mem_cons, List.not_mem_nil, or_false] at h
      rcases h with rfl | rfl <;> simp only [flatD]
  · simp only [unl, Jn.all, Jn.alls, List.append_nil, List.mem_cons, List.mem_append, List.not_mem_nil, or_false, List.cons_append, List.nil_append] at hx
    rcases hx with rfl | rfl | rfl
    · exact ⟨by decide +kernel, by decide +kernel⟩
    · exact ⟨by decide +kernel, by decide +kernel⟩
    · exact ⟨by decide +kernel, by decide +kernel⟩
theorem unl_fault : unl.fault.isNone = false := by decide +kernel
theorem unl_post : Jn.post unl 0 = [1, 2, 0] := by simp [unl, Jn.post, Jn.posts, Jn.cnt, Jn.cnts]
theorem unl_bro : BrO unl unl 0 [1, 2, 0] := by
  rw [← unl_post]
  refine post_bro _ unl 0 (Nat.le_refl _) ?_
  simp [unl, Jn.all]
theorem isOrd_unl (d : PyData) : isOrd unl d = false := by
  cases d <;> simp only [isOrd, unl_fault, Bool.false_and]
def spBr (K : PySem.W.Frag) : Sp := fun vs H Q _ => ∃ (a b po : Addr) (v : V) (rows : List V) (j : Jn) (l : List Nat), vs = [.ref a, v, .ref b, .ref po] ∧ Src H a ∧ b ≠ a ∧ H b = some (.lst rows) ∧ Kns (j.ups (-1) 0) rows H b j.cnt ∧ (∀ (x : Nat) (r : Addr), rows[x]? = some (.ref r) → r ≠ a) ∧ Rp K H v j.py ∧ Fx j ∧ j.fault = none ∧ j.cnt ≤ 40 ∧ SqT K H po (nV l) ∧ Vd (kinN (j.ups (-1) 0)) j.cnt l ∧
  ∀ H', SB a H H' → Src H' a → Q (.bl true) H'
abbrev s_law_bent_right : Stmt := top 77
theorem sc_law_bent_right : FnScope ["source", "program", "kin", "order", "some", "due", "said", "thing", "unlike"] ["source", "program", "kin", "order"] (defScope s_law_bent_right) := ⟨rfl, rfl, rfl, by decide +kernel, rfl, by decide +kernel, by decide +kernel⟩
theorem has_bent_right {cO : Addr} (O : OwnF K mg "_law_bent_right" s_law_bent_right) (B : Bl mg) (h_law_bent : HasF P w K mg base CX0 3 "_law_bent" ["source", "order"] (spBe K)) (h_law_fault : HasF P w K mg base CX0 1 "_law_fault" ["kin", "order"] (spFt K)) (h_is_order : HasF P w K mg base CX0 13 "is_order" ["program", "order"] (spIo K)) (h_law_told : HasF P w K mg base CX0 14 "_law_told" ["program", "order"] (spLt K)) (h_branchwise : HasF P w K mg base (L2.CX P w) 13 "branchwise" ["program", "order"] (spBw K cO)) : HasF P w K mg base CX0 15 "_law_bent_right" ["source", "program", "kin", "order"] (spBr K) := by
  refine has0 O sc_law_bent_right (fun _ _ _ _ _ _ us hl => match us, hl with | [_, _, _, _], _ => rfl) (fun vs H Q E h => ?_) (fun f cdv A outer s_ H vs Q E hr h => ?_)
  · obtain ⟨a, b, po, v, rows, j, l, rfl, _⟩ := h
    rfl
  obtain ⟨a, b, po, v, rows, j, l, rfl, hS, hba, hb, hK, hra, r, g, hf, h40, hO, hV, q⟩ := h
  have hul := ups_len j (-1) 0
  have hc := cnt_pos j
  have hll : (l.map fun (k : Nat) => (k : Int)).length = j.cnt := by rw [List.length_map, hV.len]
  refine ⟨_, (pss_cons (ps_for PassesOwn.never rfl (pi_listK K (pe_lst (pa_cons (pv 3) (pa_cons (pe_slice (kSl K) (pv 3) po_none (po_some (pe_un un_neg pe_int))) (pa_cons (pe_callH h_law_bent (hr.mono (by first | decide | omega)) (by rfl) pass0 (pa_cons (pv 0) (pa_cons (pv 3) pa_nil))) (pa_cons (pe_callH h_law_bent (hr.mono (by first | decide | omega)) (by rfl) pass0 (pa_cons (pv 0) (pa_cons (pv 3) pa_nil))) (pa_cons (pe_tup pa_nil) pa_nil))))))) (pg_name (i := 4) sc_law_bent_right.nd rfl (by first | exact Or.inl rfl | exact Or.inr rfl)) (pss_cons (ps_par (i := 5) (j := 6) (by rfl) sc_law_bent_right.nd rfl rfl (by decide) rfl rfl (pa_cons (pe_callH h_law_fault (hr.mono (by first | decide | omega)) (by rfl) pass0 (pa_cons (pv 2) (pa_cons (pv 4) pa_nil))) (pa_cons (pe_callH h_is_order (hr.mono (by first | decide | omega)) (by rfl) pass0 (pa_cons (pv 1) (pa_cons (pv 4) pa_nil))) pa_nil)) (by rfl)) (pss_one (ps_if (PW.pt (pw_or (pt_not (pt_val (pe_callB (kIsi K) (by rfl) B.isinstance (by decide +kernel) (pa_cons (pv 6) (pa_cons (pe_bltn (v := .ty "bool") (by rfl) B.bool (by decide +kernel) rfl) pa_nil))))) (pw_or (pt_cmpR (kNeG K (hU hr)) (pv 6) (pe_cmpR (kEqG K (hU hr)) (pv 5) (pe_un un_neg pe_int) (nomark _)) (nomark _)) (pw_or1 (pt_cmpR (kNeG K (hU hr)) (pe_callH h_law_told (hr.mono (by first | decide | omega)) (by rfl) pass0 (pa_cons (pv 1) (pa_cons (pv 4) pa_nil))) (pv 5) (nomark _)))))) (pss_one (ps_ret pe_bl)) pss_nil)))) (pss_cons (ps_for PassesOwn.never rfl (pi_listK K (pe_lst (pa_cons pe_non (pa_cons pe_str (pa_cons pe_int (pa_cons (pe_tup (pa_cons (pv 3) pa_nil)) (pa_cons (pe_op (kAdd K) (pv 3) (pe_tup (pa_cons pe_non pa_nil))) (pa_cons (pv 1) pa_nil)))))))) (pg_name (i := 7) sc_law_bent_right.nd rfl (by first | exact Or.inl rfl | exact Or.inr rfl)) (pss_one (ps_if (pt_cmpR HE.op_notB (pe_callH h_is_order (hr.mono (by first | decide | omega)) (by rfl) pass0 (pa_cons (pv 1) (pa_cons (pv 7) pa_nil))) pe_bl (nomark _)) (pss_one (ps_ret pe_bl)) pss_nil))) (pss_cons (ps_set (i := 8) sc_law_bent_right.nd rfl (by first | exact Or.inl rfl | exact Or.inr rfl) (pe_tup (pa_cons pe_str (pa_cons (pe_tup pa_nil) (pa_cons (pe_tup (pa_cons (pe_tup (pa_cons pe_str (pa_cons (pe_tup (pa_cons pe_int pa_nil)) (pa_cons (pe_tup pa_nil) pa_nil)))) (pa_cons (pe_tup (pa_cons pe_str (pa_cons (pe_tup (pa_cons pe_int (pa_cons pe_int pa_nil))) (pa_cons (pe_tup pa_nil) pa_nil)))) pa_nil))) pa_nil))))) (pss_one (ps_ret (pe_and (pe_cmpR HE.op_isB (pe_callH h_is_order (hr.mono (by first | decide | omega)) (by rfl) pass0 (pa_cons (pv 8) (pa_cons (pe_tup (pa_cons pe_int (pa_cons pe_int (pa_cons pe_int pa_nil)))) pa_nil))) pe_bl (nomark _)) (pe_one (pe_cmpR HE.op_isB (pe_callHS h_branchwise (hr.mono (by first | decide | omega)) (by rfl) (fun σ => passAt takes0 σ) (pa_cons (pv 8) (pa_cons (pe_tup (pa_cons pe_int (pa_cons pe_int (pa_cons pe_int pa_nil)))) pa_nil))) pe_bl (nomark _))))))))), ?_⟩
  refine st0 [some (.ref a), some v, some (.ref b), some (.ref po), none, none, none, none, none] rfl ?_
  have hO0 := hO
  rw [nV_ints] at hO
  walk_at "go"
  refine u_slS hO fun p1 H1 s1 hp1 => ?_
  rw [cut_init, ← List.map_dropLast] at hp1
  have hS1 := hS.same s1
  have hO1 := Ext.of_same (K := K) s1 _ _ hO
  walk_at "go"
  refine use_be hS1 hO1 (by omega) (by omega) fun H2 p2 i2 s2 hS2 hp2 l2 => ?_
  have e2 := hS1.ext (K := K) s2
  have hO2 := e2 _ _ hO1
  have hp12 := e2 _ _ hp1
  walk_at "go"
  refine use_be hS2 hO2 (by omega) (by omega) fun H3 p3 i3 s3 hS3 hp3 l3 => ?_
  have e3 := hS2.ext (K := K) s3
  have hO3 := e3 _ _ hO2
  have hp13 := e3 _ _ hp12
  have hp23 := e3 _ _ hp2
  walk_at "go"
  refine ⟨lk rfl, fun p4 hp4n => ?_⟩
  have s4 := same_new hp4n (.tup [])
  have hp4 : SqT K (upd H3 p4 (.tup [])) p4 (([] : List Int).map V.int) := SqT.of upd_same
  have sb4 := ((SB.of_same (a := a) s1).trans s2).trans (s3.trans (SB.of_same s4))
  have hS4 := hS3.same s4
  have hO4 := Ext.of_same (K := K) s4 _ _ hO3
  have hp14 := Ext.of_same (K := K) s4 _ _ hp13
  have hp24 := Ext.of_same (K := K) s4 _ _ hp23
  have hp34 := Ext.of_same (K := K) s4 _ _ hp3
  generalize upd H3 p4 (.tup []) = H4 at *
  walk_at "go"
  refine ⟨lk rfl, fun pl hpl => ?_⟩
  have s5 := same_new hpl (.lst [.ref po, .ref p1, .ref p2, .ref p3, .ref p4])
  have f5 : (upd H4 pl (.lst [.ref po, .ref p1, .ref p2, .ref p3, .ref p4])) pl = some (.lst [.ref po, .ref p1, .ref p2, .ref p3, .ref p4]) := upd_same
  have hall : ∀ x ∈ [V.ref po, .ref p1, .ref p2, .ref p3, .ref p4], ∃ (p : Addr) (is : List Int), x = .ref p ∧ SqT K (upd H4 pl (.lst [.ref po, .ref p1, .ref p2, .ref p3, .ref p4])) p (is.map V.int) ∧ is.length ≤ 1000 := by
    intro x hx
    simp only [List.mem_cons, List.not_mem_nil, or_false] at hx
    rcases hx with rfl | rfl | rfl | rfl | rfl
    · exact ⟨_, _, rfl, Ext.of_same s5 _ _ hO4, by omega⟩
    · exact ⟨_, _, rfl, Ext.of_same s5 _ _ hp14, by rw [List.length_dropLast]; omega⟩
    · exact ⟨_, _, rfl, Ext.of_same s5 _ _ hp24, by omega⟩
    · exact ⟨_, _, rfl, Ext.of_same s5 _ _ hp34, by omega⟩
    · exact ⟨_, _, rfl, Ext.of_same s5 _ _ hp4, by simp⟩
  have sb5 := sb4.trans (SB.of_same s5)
  have hS5 := hS4.same s5
  have hO5 := Ext.of_same (K := K) s5 _ _ hO4
  clear hp14 hp24 hp34 hp13 hp23 hp12 hp1 hp2 hp3 hp4 hO1 hO2 hO3 hO4 e2 e3 s1 s2 s3 s4 hS1 hS2 hS3 hS4 sb4 s5 hp4n hpl
  generalize upd H4 pl (.lst [.ref po, .ref p1, .ref p2, .ref p3, .ref p4]) = H5 at *
  have r5 := r.mono (hS.ext sb5) _ _
  have hb5 := sb5 _ _ hba hb
  have hK5 := hK.sb hra sb5
  walk_at "go"
  try refine rd_itL (SqL.of f5) ?_
  refine forL (xs := [V.ref po, .ref p1, .ref p2, .ref p3, .ref p4]) (fun i σ H' => ∃ (o4 o5 o6 : Option V), σ = [some (.ref a), some v, some (.ref b), some (.ref po), o4, o5, o6, none, none] ∧ Same H5 H') ⟨_, _, _, rfl, Same.refl H5⟩ ?_ ?_ ?_
  · rintro i σ H' hi ⟨o4, o5, o6, rfl, k1⟩
    exact SqL.of (k1 _ _ f5)
  · rintro i x σ H' hx ⟨o4, o5, o6, rfl, k1⟩
    obtain ⟨p, is, rfl, hp, lis⟩ := hall x (List.mem_of_getElem? hx)
    have hp' := Ext.of_same (K := K) k1 _ _ hp
    walk_at "go"
    refine use_ft (k1 _ _ hb5) (by rw [hul]; exact hK5.same k1) (by omega) hp' lis fun H6 s6 => ?_
    rw [hul]
    walk_at "go"
    refine use_io (r5.mono (Ext.of_same (k1.trans s6)) _ _) g h40 (.tup (Ext.of_same s6 _ _ hp') (Rps.ints is)) (fun ds e => by cases e; rw [List.length_map]; exact lis) fun H7 s7 => ?_
    rw [isOrd_due hf]
    obtain ⟨du, edu⟩ : ∃ du, dueO (kinN (j.ups (-1) 0)) j.cnt is [] 0 = du := ⟨_, rfl⟩
    rw [edu]
    walk_at "go"
    refine u_isi (d := .bool _) (.inr (.inr (.inr rfl))) (Rp.bl _) ?_
    refine ⟨true, rfl, ?_⟩
    refine iteF ?_
    walk_at "go"
    rw [show (!decide (decide (du = -1) = decide (du = -1))) = false by simp]
    refine iteF ?_
    walk_at "go"
    have k7 := (k1.trans s6).trans s7
    refine use_lt (r5.mono (Ext.of_same k7) _ _) g.ok h40 (g.walk h40) (Ext.of_same k7 _ _ hp) lis fun H8 s8 => ?_
    rw [edu]
    walk_at "go"
    rw [show (!decide (du = du)) = false by simp]
    refine iteF ?_
    walk_at "go"
    exact ⟨_, _, _, rfl, k7.trans s8⟩
  rintro σ H6 ⟨o4, o5, o6, rfl, k1⟩
  have sb6 := sb5.trans (SB.of_same k1)
  have hS6 := hS5.same k1
  have r6 := r5.mono (Ext.of_same k1) _ _
  have hO6 := Ext.of_same (K := K) k1 _ _ hO5
  clear hall f5 hb5 hK5 k1 sb5 hS5 r5 hO5
  walk_at "go"
  refine ⟨lk rfl, fun t1 ht1 => ?_⟩
  have s7 := same_new ht1 (.tup [.ref po])
  have ht1' : SqT K (upd H6 t1 (.tup [.ref po])) t1 [.ref po] := SqT.of upd_same
  have r7 := r6.mono (Ext.of_same s7) _ _
  have hO7 := Ext.of_same (K := K) s7 _ _ hO6
  have sb7 := sb6.trans (SB.of_same s7)
  have hS7 := hS6.same s7
  generalize upd H6 t1 (.tup [.ref po]) = H7 at *
  walk_at "go"
  refine ⟨lk rfl, fun t2 ht2 => ?_⟩
  have s8 := same_new ht2 (.tup [.non])
  have ht2' : SqT K (upd H7 t2 (.tup [.non])) t2 [.non] := SqT.of upd_same
  have r8 := r7.mono (Ext.of_same s8) _ _
  have hO8 := Ext.of_same (K := K) s8 _ _ hO7
  have ht18 := Ext.of_same (K := K) s8 _ _ ht1'
  have sb8 := sb7.trans (SB.of_same s8)
  have hS8 := hS7.same s8
  generalize upd H7 t2 (.tup [.non]) = H8 at *
  walk_at "go"
  refine u_catS hO8 ht2' ?_ fun t3 H9 s9 ht3 => ?_
  · rw [List.length_map, hll]
    exact ll (by show _ + 1 ≤ _; omega)
  have r9 := r8.mono (Ext.of_same s9) _ _
  have hO9 := Ext.of_same (K := K) s9 _ _ hO8
  have ht19 := Ext.of_same (K := K) s9 _ _ ht18
  have sb9 := sb8.trans (SB.of_same s9)
  have hS9 := hS8.same s9
  walk_at "go"
  refine ⟨lk rfl, fun pk hpk => ?_⟩
  have sA := same_new hpk (.lst [.non, .str "", .int 0, .ref t1, .ref t3, v])
  have fA : (upd H9 pk (.lst [.non, .str "", .int 0, .ref t1, .ref t3, v])) pk = some (.lst [.non, .str "", .int 0, .ref t1, .ref t3, v]) := upd_same
  have rA := r9.mono (Ext.of_same sA) _ _
  have hOA := Ext.of_same (K := K) sA _ _ hO9
  have ht1A := Ext.of_same (K := K) sA _ _ ht19
  have ht3A := Ext.of_same (K := K) sA _ _ ht3
  have sbA := sb9.trans (SB.of_same sA)
  have hSA := hS9.same sA
  clear s7 s8 s9 sA ht18 ht19 ht1' ht2' ht3 r6 r7 r8 r9 hO6 hO7 hO8 hO9 sb6 sb7 sb8 sb9 hS6 hS7 hS8 hS9 hpk ht1 ht2
  generalize upd H9 pk (.lst [.non, .str "", .int 0, .ref t1, .ref t3, v]) = HA at *
  have hall : ∀ x ∈ [V.non, .str "", .int 0, .ref t1, .ref t3, v], ∃ d, Rp K HA x d ∧ (∀ ds, d = .tuple ds → ds.length ≤ 1000) ∧ isOrd j d = false := by
    intro x hx
    simp only [List.mem_cons, List.not_mem_nil, or_false] at hx
    rcases hx with rfl | rfl | rfl | rfl | rfl | rfl
    · exact ⟨_, .non, (fun ds e => by cases e), rfl⟩
    · exact ⟨_, .str _, (fun ds e => by cases e), rfl⟩
    · exact ⟨_, .int _, (fun ds e => by cases e), rfl⟩
    · refine ⟨.tuple [.tuple ((l.map fun (k : Nat) => (k : Int)).map PyData.int)], .tup ht1A (.cons (.tup hOA (Rps.ints _)) .nil), (fun ds e => by cases e; simp), isOrd_odd ⟨_, List.mem_singleton_self _, fun z e => by cases e⟩⟩
    · refine ⟨.tuple ((l.map fun (k : Nat) => (k : Int)).map PyData.int ++ [.none]), .tup ht3A ((Rps.ints _).append (.one .non)), (fun ds e => by cases e; rw [List.length_append, List.length_map, hll]; show _ + 1 ≤ _; omega), isOrd_odd ⟨.none, by simp, fun z e => by cases e⟩⟩
    · obtain ⟨op, td, parts⟩ := j
      refine ⟨_, rA, fun ds e => ?_, ?_⟩
      · simp only [Jn.py] at e
        cases e
        simp
      · simp only [Jn.py]
        exact isOrd_odd ⟨.str op, by simp, fun z e => by cases e⟩
  walk_at "go"
  try refine rd_itL (SqL.of fA) ?_
  refine forL (xs := [V.non, .str "", .int 0, .ref t1, .ref t3, v]) (fun i σ H' => ∃ (o4 o5 o6 o7 : Option V), σ = [some (.ref a), some v, some (.ref b), some (.ref po), o4, o5, o6, o7, none] ∧ Same HA H') ⟨_, _, _, _, rfl, Same.refl HA⟩ ?_ ?_ ?_
  · rintro i σ H' hi ⟨o4, o5, o6, o7, rfl, k1⟩
    exact SqL.of (k1 _ _ fA)
  · rintro i x σ H' hx ⟨o4, o5, o6, o7, rfl, k1⟩
    obtain ⟨d, hd, ld, ed⟩ := hall x (List.mem_of_getElem? hx)
    walk_at "go"
    refine use_io (rA.mono (Ext.of_same k1) _ _) g h40 (hd.mono (Ext.of_same k1) _ _) ld fun H6 s6 => ?_
    rw [ed]
    walk_at "go"
    rw [show (!decide (false = false)) = false by rfl]
    refine iteF ?_
    walk_at "go"
    exact ⟨_, _, _, _, rfl, k1.trans s6⟩
  rintro σ HB ⟨o4, o5, o6, o7, rfl, k1⟩
  have sbB := sbA.trans (SB.of_same k1)
  have hSB := hSA.same k1
  clear hall fA rA hOA ht1A ht3A sbA hSA k1
  walk_at "go"
  refine ⟨lk rfl, fun q1 hq1 => ?_⟩
  have z1 := same_new hq1 (.tup [])
  have y1 : SqT K (upd HB q1 (.tup [])) q1 [] := SqT.of upd_same
  generalize upd HB q1 (.tup []) = HC at *
  walk_at "go"
  refine ⟨lk rfl, fun q2 hq2 => ?_⟩
  have z2 := same_new hq2 (.tup [.int 1])
  have y2 : SqT K (upd HC q2 (.tup [.int 1])) q2 [.int 1] := SqT.of upd_same
  generalize upd HC q2 (.tup [.int 1]) = HD at *
  walk_at "go"
  refine ⟨lk rfl, fun q3 hq3 => ?_⟩
  have z3 := same_new hq3 (.tup [])
  have y3 : SqT K (upd HD q3 (.tup [])) q3 [] := SqT.of upd_same
  generalize upd HD q3 (.tup []) = HE at *
  walk_at "go"
  refine ⟨lk rfl, fun q4 hq4 => ?_⟩
  have z4 := same_new hq4 (.tup [.str "row", .ref q2, .ref q3])
  have y4 : SqT K (upd HE q4 (.tup [.str "row", .ref q2, .ref q3])) q4 [.str "row", .ref q2, .ref q3] := SqT.of upd_same
  generalize upd HE q4 (.tup [.str "row", .ref q2, .ref q3]) = HF at *
  walk_at "go"
  refine ⟨lk rfl, fun q5 hq5 => ?_⟩
  have z5 := same_new hq5 (.tup [.int 1, .int 2])
  have y5 : SqT K (upd HF q5 (.tup [.int 1, .int 2])) q5 [.int 1, .int 2] := SqT.of upd_same
  generalize upd HF q5 (.tup [.int 1, .int 2]) = HG at *
  walk_at "go"
  refine ⟨lk rfl, fun q6 hq6 => ?_⟩
  have z6 := same_new hq6 (.tup [])
  have y6 : SqT K (upd HG q6 (.tup [])) q6 [] := SqT.of upd_same
  generalize upd HG q6 (.tup []) = HI at *
  walk_at "go"
  refine ⟨lk rfl, fun q7 hq7 => ?_⟩
  have z7 := same_new hq7 (.tup [.str "row", .ref q5, .ref q6])
  have y7 : SqT K (upd HI q7 (.tup [.str "row", .ref q5, .ref q6])) q7 [.str "row", .ref q5, .ref q6] := SqT.of upd_same
  generalize upd HI q7 (.tup [.str "row", .ref q5, .ref q6]) = HJ at *
  walk_at "go"
  refine ⟨lk rfl, fun q8 hq8 => ?_⟩
  have z8 := same_new hq8 (.tup [.ref q4, .ref q7])
  have y8 : SqT K (upd HJ q8 (.tup [.ref q4, .ref q7])) q8 [.ref q4, .ref q7] := SqT.of upd_same
  generalize upd HJ q8 (.tup [.ref q4, .ref q7]) = HK at *
  walk_at "go"
  refine ⟨lk rfl, fun q9 hq9 => ?_⟩
  have z9 := same_new hq9 (.tup [.str "add", .ref q1, .ref q8])
  have y9 : SqT K (upd HK q9 (.tup [.str "add", .ref q1, .ref q8])) q9 [.str "add", .ref q1, .ref q8] := SqT.of upd_same
  generalize upd HK q9 (.tup [.str "add", .ref q1, .ref q8]) = HL at *
  have w8 := z8.trans z9
  have w7 := z7.trans w8
  have w6 := z6.trans w7
  have w5 := z5.trans w6
  have w4 := z4.trans w5
  have w3 := z3.trans w4
  have w2 := z2.trans w3
  have w1 := z1.trans w2
  have ru : Rp K HL (.ref q9) unl.py := by
    simp only [unl, Jn.py, Jn.pys]
    refine .tup y9 (.cons (.str _) (.cons (.tup (Ext.of_same w2 _ _ y1) .nil) (.cons (.tup (Ext.of_same z9 _ _ y8) (.cons (.tup (Ext.of_same w5 _ _ y4) (.cons (.str _) (.cons (.tup (Ext.of_same w3 _ _ y2) (.cons (.int _) .nil)) (.cons (.tup (Ext.of_same w4 _ _ y3) .nil) .nil)))) (.cons (.tup (Ext.of_same w8 _ _ y7) (.cons (.str _) (.cons (.tup (Ext.of_same w6 _ _ y5) (.cons (.int _) (.cons (.int _) .nil))) (.cons (.tup (Ext.of_same w7 _ _ y6) .nil) .nil)))) .nil))) .nil)))
  have sbL := sbB.trans (SB.of_same w1)
  have hSL := hSB.same w1
  clear y1 y2 y3 y4 y5 y6 y7 y8 y9 z1 z2 z3 z4 z5 z6 z7 z8 z9 w2 w3 w4 w5 w6 w7 w8 w1 sbB hSB
  walk_at "go"
  refine ⟨lk rfl, fun e1 he1 => ?_⟩
  have x1 := same_new he1 (.tup [.int 1, .int 2, .int 0])
  have v1 : SqT K (upd HL e1 (.tup [.int 1, .int 2, .int 0])) e1 (nV [1, 2, 0]) := SqT.of upd_same
  generalize upd HL e1 (.tup [.int 1, .int 2, .int 0]) = HM at *
  walk_at "go"
  refine use_io (ru.mono (Ext.of_same x1) _ _) unl_fx (by rw [unl_cnt]; omega) (d := .tuple (([1, 2, 0] : List Int).map PyData.int)) (.tup v1 (Rps.ints [1, 2, 0])) (fun ds e => by cases e; simp) fun HN x2 => ?_
  rw [isOrd_unl]
  walk_at "go"
  refine iteT ?_
  walk_at "go"
  refine ⟨lk rfl, fun e2 he2 => ?_⟩
  have x3 := same_new he2 (.tup [.int 1, .int 2, .int 0])
  have v2 : SqT K (upd HN e2 (.tup [.int 1, .int 2, .int 0])) e2 (nV [1, 2, 0]) := SqT.of upd_same
  generalize upd HN e2 (.tup [.int 1, .int 2, .int 0]) = HO at *
  walk_at "go"
  have x4 := (x1.trans x2).trans x3
  have c40 : unl.cnt ≤ 40 := by rw [unl_cnt]; omega
  refine use_bw (ru.mono (Ext.of_same x4) _ _) unl_fx.ok c40 (unl_fx.walk c40) v2 (bro_vd unl_bro) fun HP x5 => ?_
  rw [bro_sb unl_bro]
  walk_at "go"
  rw [show decide (true = true) = true by rfl]
  have x6 := x4.trans x5
  exact q _ (sbL.trans (SB.of_same x6)) (hSL.same x6)
end
end Mine

/-! ### JQ -/
namespace Mine
open PySem PySem.Spec L2
local macro_rules | `(tactic| walk_at "st") => `(tactic| first
  | ((with_reducible apply rd_var); exact rfl)
  | (with_reducible apply rd_c)
  | (with_reducible apply rd_seq)
  | (with_reducible apply rd_asg)
  | (with_reducible apply rd_gname)
  | (with_reducible apply rd_op)
  | (with_reducible apply rd_cb)
  | (with_reducible apply rd_cons)
  | (with_reducible apply rd_nil)
  | (with_reducible apply rd_if)
  | (with_reducible apply rd_test)
  | (with_reducible apply rd_bl)
  | (with_reducible apply rd_retE)
  | (with_reducible apply rd_ret)
  | (with_reducible apply rd_call)
  | (with_reducible apply rd_tup)
  | (with_reducible apply rd_lst)
  | (with_reducible apply rd_drop)
  | (with_reducible apply rd_next)
  | (with_reducible apply rd_ife)
  | (with_reducible apply rd_gsub)
  | (with_reducible apply rd_par)
  | (with_reducible apply rd_par_end)
  | (with_reducible apply rd_un)
  | (with_reducible apply rd_and)
  | (with_reducible apply rd_or)
  | (with_reducible apply rd_not)
  | (with_reducible apply rd_andV)
  | (with_reducible apply rd_orV)
  | (with_reducible apply rd_notV)
  | (with_reducible apply rd_chain)
  | (with_reducible apply rd_tB)
  | (with_reducible apply rd_brk)
  | (with_reducible apply rd_ct)
  | (with_reducible apply u_add)
  | (with_reducible apply u_sub)
  | (with_reducible apply u_lt)
  | (with_reducible apply u_le)
  | (with_reducible apply u_gt)
  | (with_reducible apply u_ge)
  | (with_reducible apply u_eqI)
  | (with_reducible apply u_eqS)
  | (with_reducible apply u_neI)
  | (with_reducible apply u_int)
  | (with_reducible apply u_intB)
  | (with_reducible apply u_max)
  | (with_reducible apply u_min)
  | (with_reducible apply u_neg)
  | ((with_reducible apply u_mod); focus first | assumption | decide | omega)
  | ((with_reducible apply u_div); focus first | decide | omega | (constructor <;> first | assumption | omega))
  | ((with_reducible apply u_mul); focus first | exact Or.inl (by omega) | exact Or.inr (by omega) | exact Or.inl (by decide) | exact Or.inr (by decide))
  | ((with_reducible apply u_ixL); (focus (first | assumption | exact SqL.of (by assumption) | exact SqL.of upd_same)); exact rfl)
  | ((with_reducible apply u_lenL); focus (first | assumption | exact SqL.of (by assumption) | exact SqL.of upd_same))
  | ((with_reducible apply u_lenT); focus (first | assumption | exact SqT.of (by assumption) | exact SqT.of upd_same))
  | ((with_reducible apply u_setL); (focus (first | assumption | exact upd_same)); exact rfl)
  | (with_reducible apply rd_chain3)
  | (with_reducible apply rd_tru)
  | (with_reducible apply rd_truB)
  | ((with_reducible apply rd_truL); focus (first | assumption | exact SqL.of (by assumption) | exact SqL.of upd_same))
  | (with_reducible apply rd_bm)
  | (with_reducible apply rd_bm0)
  | ((with_reducible apply rd_tyL); focus (first | exact SqL.of (by assumption) | exact SqL.of upd_same))
  | (with_reducible apply u_min3)
  | (with_reducible apply rd_rev)
  | (with_reducible apply rd_iList)
  | (with_reducible apply rd_iTup)
  | (with_reducible apply rd_for)
  | (with_reducible apply rd_rng1)
  | (with_reducible apply rd_rng2)
  | ((with_reducible apply rd_rng1e); (focus omega); (focus omega))
  | ((with_reducible apply rd_rng2e); (focus omega))
  | (with_reducible apply rd_gcons)
  | (with_reducible apply rd_gnil)
  | (with_reducible apply rd_retN)
  | (with_reducible apply g_eqI)
  | (with_reducible apply g_eqS)
  | (with_reducible apply g_neI)
  | (with_reducible apply g_neS)
  | (with_reducible apply g_neB)
  | (with_reducible apply rd_xf)
  | (with_reducible apply rd_raiseE)
  | (with_reducible apply rd_callS)
  | (with_reducible apply u_inD)
  | (with_reducible apply u_notInD)
  | (with_reducible apply u_inS)
  | (with_reducible apply u_notInS)
  | (with_reducible apply rd_iSeq)
  | ((with_reducible apply rd_seqL); (focus first | assumption | exact SqL.of (by assumption) | exact SqL.of upd_same))
  | ((with_reducible apply rd_seqT); (focus first | assumption | exact SqT.of (by assumption) | exact SqT.of upd_same))
  | (with_reducible apply rd_istr)
  | (with_reducible apply rd_istrE)
  | ((with_reducible apply u_isi); (focus (first | exact Or.inl rfl | exact Or.inr (Or.inl rfl) | exact Or.inr (Or.inr (Or.inl rfl)) | exact Or.inr (Or.inr (Or.inr rfl)))); (focus first | assumption | exact Rp.int _ | exact Rp.str _))
  | ((with_reducible apply rd_itL); (focus first | assumption | exact SqL.of (by assumption) | exact SqL.of upd_same))
  | ((with_reducible apply rd_itT); (focus first | assumption | exact SqT.of (by assumption) | exact SqT.of upd_same))
  | (with_reducible apply rd_lc)
  | (with_reducible apply rd_yes)
  | ((with_reducible apply u_pow); (focus (exact ⟨by decide, by decide, by decide⟩)))
  | (with_reducible apply u_mul; focus exact Or.inr cm)
  | (with_reducible apply rd_par3)
  | (with_reducible apply rd_par3_end)
  | ((with_reducible apply rd_aug); exact rfl)
  | (with_reducible apply rd_ipI)
  | (with_reducible apply rd_enA)
  | (with_reducible apply rd_revR)
  | (with_reducible apply rd_rg1)
  | (with_reducible apply rd_rng3)
  | ((with_reducible apply u_enT); (focus first | assumption | exact SqT.of (by assumption) | exact SqT.of upd_same))
  | ((with_reducible apply u_enL); (focus first | assumption | exact SqL.of (by assumption) | exact SqL.of upd_same))
  | (with_reducible apply rd_zip)
  | (with_reducible apply rd_lc2)
  | ((with_reducible apply rd_gtup); (focus first | assumption | exact SqT.of (by assumption) | exact SqT.of upd_same); (focus rfl))
  | (with_reducible apply rd_dnew)
  | (with_reducible apply rd_din)
  | (with_reducible apply rd_dget)
  | (with_reducible apply rd_dput)
  | (with_reducible apply rd_disp1)
  | (with_reducible apply rd_sl)
  | (with_reducible apply rd_part)
  | (with_reducible apply rd_partI)
  | (with_reducible apply rd_nopart)
  | (with_reducible apply u_isB)
  | (with_reducible apply u_repB)
  | (with_reducible apply u_notB)
  | (with_reducible apply rd_dc)
  | (with_reducible apply rd_bmT)
  | (with_reducible apply rd_tupF)
  | ((with_reducible apply rd_tyF); (focus assumption))
  | (with_reducible apply iteT)
  | (with_reducible apply iteF))
local macro_rules | `(tactic| walk_at "go") => `(tactic| repeat (walk_at "st"))
local macro_rules | `(tactic| walk_at "sp") => `(tactic| (first | refine rd_split (fun c => ?_) (fun c => ?_) | refine rd_splitN (fun c => ?_) (fun c => ?_) | refine rd_splitB (fun c => ?_) (fun c => ?_)))
local macro_rules | `(tactic| walk_at "nx") => `(tactic| repeat (first | (with_reducible apply iteF) | (with_reducible apply iteT) | (with_reducible apply rd_next)))

section
variable {P : Program} {w : World} {K : PySem.W.Frag} {mg : Str → Option Value} {base : Heap}
theorem use_sb {K : PySem.W.Frag} {b po : Addr} {rows : List V} {j : Jn} {l : List Nat} {H : Hp} {Q : VK} {E : XK} (h : H b = some (.lst rows)) (h1 : Kns (j.ups (-1) 0) rows H b j.cnt) (h2 : j.cnt ≤ 40) (h3 : j.ok) (h4 : HE.FT H po (nV l)) (h5 : Vd (kinN (j.ups (-1) 0)) j.cnt l) (q : ∀ H', Same H H' → Q (.bl (sbB j l)) H') : spSb K [.ref b, .ref po] H Q E := ⟨b, po, rows, j, l, rfl, h, h1, h2, h3, h4, h5, q⟩
theorem use_kin {K : PySem.W.Frag} {v : V} {j : Jn} {H : Hp} {Q : VK} {E : XK} (r : Rp K H v j.py) (h : j.ok) (h1 : j.cnt ≤ 40) (q : ∀ (H' : Hp) (b : Addr) (rows : List V), Same H H' → H b = none → H' b = some (.lst rows) → Kns (j.ups (-1) 0) rows H' b j.cnt → NewR H rows → Q (.ref b) H') : spKin K [v] H Q E := ⟨v, j, rfl, r, h, h1, q⟩
theorem use_ao {K : PySem.W.Frag} {a b : Addr} {rows : List V} {j : Jn} {H : Hp} {Q : VK} {E : XK} (h : Src H a) (hba : b ≠ a) (h1 : H b = some (.lst rows)) (h2 : Kns (j.ups (-1) 0) rows H b j.cnt) (h3 : ∀ (x : Nat) (r : Addr), rows[x]? = some (.ref r) → r ≠ a) (h4 : j.cnt ≤ 40) (q : ∀ (H' : Hp) (q : Addr) (l' : List Nat), SB a H H' → Src H' a → HE.FT H' q (nV l') → Vd (kinN (j.ups (-1) 0)) j.cnt l' → Q (.ref q) H') : spAo K [.ref a, .ref b] H Q E := ⟨a, b, rows, j, rfl, h, hba, h1, h2, h3, h4, q⟩
theorem use_nb {K : PySem.W.Frag} {a b po : Addr} {rows : List V} {us : List Int} {l : List Nat} {H : Hp} {Q : VK} {E : XK} (h : Src H a) (hba : b ≠ a) (h1 : H b = some (.lst rows)) (h2 : Kns us rows H b us.length) (h3 : ∀ (x : Nat) (r : Addr), rows[x]? = some (.ref r) → r ≠ a) (h4 : us.length ≤ 40) (h5 : HE.FT H po (nV l)) (h6 : Vd (kinN us) us.length l) (q : ∀ (H' : Hp) (q : Addr) (l' : List Nat), SB a H H' → Src H' a → HE.FT H' q (nV l') → Vd (kinN us) us.length l' → Q (.ref q) H') : spNb K [.ref a, .ref b, .ref po] H Q E := ⟨a, b, po, rows, us, l, rfl, h, hba, h1, h2, h3, h4, h5, h6, q⟩
theorem use_br {K : PySem.W.Frag} {a b po : Addr} {v : V} {rows : List V} {j : Jn} {l : List Nat} {H : Hp} {Q : VK} {E : XK} (h : Src H a) (hba : b ≠ a) (h1 : H b = some (.lst rows)) (h2 : Kns (j.ups (-1) 0) rows H b j.cnt) (h3 : ∀ (x : Nat) (r : Addr), rows[x]? = some (.ref r) → r ≠ a) (r : Rp K H v j.py) (g : Fx j) (hf : j.fault = none) (h4 : j.cnt ≤ 40) (h5 : SqT K H po (nV l)) (h6 : Vd (kinN (j.ups (-1) 0)) j.cnt l) (q : ∀ H', SB a H H' → Src H' a → Q (.bl true) H') : spBr K [.ref a, v, .ref b, .ref po] H Q E := ⟨a, b, po, v, rows, j, l, rfl, h, hba, h1, h2, h3, r, g, hf, h4, h5, h6, q⟩
theorem seq_on {K : PySem.W.Frag} {H H2 H3 : Hp} {a p : Addr} {xs : List V} (h : SqL K H a xs) (s : Same H H2) (hp : H p = none) (t : SB p H2 H3) : SqL K H3 a xs := by
  rcases h with (h | ⟨o, h⟩) | h
  · exact .inl (.inl (t _ _ (ne_of_none h hp) (s _ _ h)))
  · exact .inl (.inr ⟨o, t _ _ (ne_of_none h hp) (s _ _ h)⟩)
  · exact .inr h
theorem shareI {G : Int → Prop} {T : Prop} (main : ∀ z : Int, 1 ≤ z → z ≤ 40 → G z) (h : (∀ z : Int, 1 ≤ z → z ≤ 40 → G z) → T) : T := h main
theorem ints_deepJ : ∀ ns : List Int, PyData.depthAll (ns.map PyData.int) = 0
  | [] => rfl
  | n :: r => by simp only [List.map_cons, PyData.depthAll, ints_deepJ r, PyData.depth]; rfl
theorem dats_nV : ∀ l : List Nat, dats ((l.map fun (k : Nat) => (k : Int)).map PyData.int) := fun l => ints_layJ _
def spLaw (K : PySem.W.Frag) : Sp := fun vs H Q _ => ∃ (a : Addr) (ns : List Int), vs = [.ref a] ∧ SqL K H a (ns.map V.int) ∧ ns.length ≤ 63 ∧ ∀ H', Q (.bl true) H'
abbrev s_law : Stmt := top 78
theorem sc_law : FnScope ["script", "k", "source", "most", "program", "kin", "first", "branched", "order", "said"] ["script"] (defScope s_law) := ⟨rfl, rfl, rfl, by decide +kernel, rfl, by decide +kernel, by decide +kernel⟩
theorem ok_law {f : Addr} {fd : FuncData} {cO : Addr} (F : Fun K "law" "law" s_law f fd) (B : Bl mg) (h_law_pool : HasF P w K mg base CX0 1 "_law_pool" ["script", "k"] (spPool K)) (h_law_take : HasF P w K mg base CX0 1 "_law_take" ["source", "top"] spTake) (h_law_program : HasF P w K mg base CX0 5 "_law_program" ["source", "most"] (spPr K)) (h_law_kin : HasF P w K mg base CX0 2 "_law_kin" ["program"] (spKin K))
    (h_first_order : HasF P w K mg base (L2.CX P w) 11 "first_order" ["program"] (spFo K)) (h_law_branched : HasF P w K mg base CX0 42 "_law_branched" ["source", "kin", "x"] (spBd K 40)) (h_law_from_left : HasF P w K mg base CX0 42 "_law_from_left" ["kin", "x"] (spFl K 40)) (h_law_any_order : HasF P w K mg base CX0 3 "_law_any_order" ["source", "kin"] (spAo K)) (h_law_neighbours : HasF P w K mg base CX0 2 "_law_neighbours" ["source", "kin", "order"] (spNb K))
    (h_branchwise : HasF P w K mg base (L2.CX P w) 13 "branchwise" ["program", "order"] (spBw K cO)) (h_law_side_by_side : HasF P w K mg base CX0 43 "_law_side_by_side" ["kin", "order"] (spSb K)) (h_law_bent_right : HasF P w K mg base CX0 15 "_law_bent_right" ["source", "program", "kin", "order"] (spBr K)) : FnOk P w K mg base CX0 44 f fd ["script"] (spLaw K) := by
  refine F.ok sc_law (fun vs H Q E h => ?_) (fun cdv A outer s_ H vs Q E hr h => ?_)
  · obtain ⟨a, ns, rfl, _⟩ := h
    rfl
  obtain ⟨a, ns, rfl, hL, h63, q⟩ := h
  have hl : (ns.map V.int).length = ns.length := List.length_map _
  refine ⟨_, (pss_cons (ps_for PassesOwn.never rfl (pi_range1 (by rfl) B.range (pa_cons (pe_callB (max2U rfl) (by rfl) B.max (by decide +kernel) (pa_cons pe_int (pa_cons (pe_callB (min2U rfl) (by rfl) B.min (by decide +kernel) (pa_cons (pe_callB (kLen K) (by rfl) B.len (by decide +kernel) (pa_cons (pv 0) pa_nil)) (pa_cons pe_int pa_nil))) pa_nil))) pa_nil)) (pg_name (i := 1) sc_law.nd rfl (by first | exact Or.inl rfl | exact Or.inr rfl)) (pss_cons (ps_set (i := 2) sc_law.nd rfl (by first | exact Or.inl rfl | exact Or.inr rfl) (pe_callH h_law_pool (hr.mono (by first | decide | omega)) (by rfl) pass0 (pa_cons (pv 0) (pa_cons (pv 1) pa_nil)))) (pss_cons (ps_set (i := 3) sc_law.nd rfl (by first | exact Or.inl rfl | exact Or.inr rfl) (pe_op (kAdd K) pe_int (pe_callH h_law_take (hr.mono (by first | decide | omega)) (by rfl) pass0 (pa_cons (pv 2) (pa_cons pe_int pa_nil))))) (pss_cons (ps_if (pt_cmpR (kEqG K (hU hr)) (pe_callH h_law_take (hr.mono (by first | decide | omega)) (by rfl) pass0 (pa_cons (pv 2) (pa_cons pe_int pa_nil))) pe_int (nomark _)) (pss_one (ps_set (i := 3) sc_law.nd rfl (by first | exact Or.inl rfl | exact Or.inr rfl) pe_int)) pss_nil) (pss_cons (ps_set (i := 4) sc_law.nd rfl (by first | exact Or.inl rfl | exact Or.inr rfl) (pe_callH h_law_program (hr.mono (by first | decide | omega)) (by rfl) pass0 (pa_cons (pv 2) (pa_cons (pv 3) pa_nil)))) (pss_cons (ps_set (i := 5) sc_law.nd rfl (by first | exact Or.inl rfl | exact Or.inr rfl) (pe_callH h_law_kin (hr.mono (by first | decide | omega)) (by rfl) pass0 (pa_cons (pv 4) pa_nil))) (pss_cons (ps_par (i := 6) (j := 7) (by rfl) sc_law.nd rfl rfl (by decide) rfl rfl (pa_cons (pe_callHS h_first_order (hr.mono (by first | decide | omega)) (by rfl) (fun σ => passAt takes0 σ) (pa_cons (pv 4) pa_nil)) (pa_cons (pe_callTy (kTupF K) (by rfl) B.tuple (by decide +kernel) (pa_cons (pe_callH h_law_branched (hr.mono (by first | decide | omega)) (by rfl) pass0 (pa_cons (pv 2) (pa_cons (pv 5) (pa_cons pe_int pa_nil)))) pa_nil)) pa_nil)) (by rfl)) (pss_cons (ps_if (PW.pt (pw_or (pt_not (pt_val (pe_callB (kIsi K) (by rfl) B.isinstance (by decide +kernel) (pa_cons (pv 6) (pa_cons (pe_bltn (v := .ty "tuple") (by rfl) B.tuple (by decide +kernel) rfl) pa_nil))))) (pw_or1 (pt_cmpR (kNeG K (hU hr)) (pv 6) (pe_callTy (kTupF K) (by rfl) B.tuple (by decide +kernel) (pa_cons (pe_callH h_law_from_left (hr.mono (by first | decide | omega)) (by rfl) pass0 (pa_cons (pv 5) (pa_cons pe_int pa_nil))) pa_nil)) (nomark _))))) (pss_one (ps_ret pe_bl)) pss_nil) (pss_cons (ps_for PassesOwn.never rfl (pi_listK K (pe_lst (pa_cons (pv 6) (pa_cons (pv 7) (pa_cons (pe_callH h_law_any_order (hr.mono (by first | decide | omega)) (by rfl) pass0 (pa_cons (pv 2) (pa_cons (pv 5) pa_nil))) (pa_cons (pe_callH h_law_neighbours (hr.mono (by first | decide | omega)) (by rfl) pass0 (pa_cons (pv 2) (pa_cons (pv 5) (pa_cons (pv 7) pa_nil)))) pa_nil)))))) (pg_name (i := 8) sc_law.nd rfl (by first | exact Or.inl rfl | exact Or.inr rfl)) (pss_cons (ps_set (i := 9) sc_law.nd rfl (by first | exact Or.inl rfl | exact Or.inr rfl) (pe_callHS h_branchwise (hr.mono (by first | decide | omega)) (by rfl) (fun σ => passAt takes0 σ) (pa_cons (pv 4) (pa_cons (pv 8) pa_nil)))) (pss_one (ps_if (PW.pt (pw_or (pt_not (pt_val (pe_callB (kIsi K) (by rfl) B.isinstance (by decide +kernel) (pa_cons (pv 9) (pa_cons (pe_bltn (v := .ty "bool") (by rfl) B.bool (by decide +kernel) rfl) pa_nil))))) (pw_or1 (pt_cmpR (kNeG K (hU hr)) (pv 9) (pe_callH h_law_side_by_side (hr.mono (by first | decide | omega)) (by rfl) pass0 (pa_cons (pv 5) (pa_cons (pv 8) pa_nil))) (nomark _))))) (pss_one (ps_ret pe_bl)) pss_nil)))) (pss_cons (ps_if (PW.pt (pw_or (pt_not (pt_truthK K (pe_callHS h_branchwise (hr.mono (by first | decide | omega)) (by rfl) (fun σ => passAt takes0 σ) (pa_cons (pv 4) (pa_cons (pv 6) pa_nil))) (by intro _; rfl))) (pw_or1 (pt_not (pt_truthK K (pe_callHS h_branchwise (hr.mono (by first | decide | omega)) (by rfl) (fun σ => passAt takes0 σ) (pa_cons (pv 4) (pa_cons (pv 7) pa_nil))) (by intro _; rfl)))))) (pss_one (ps_ret pe_bl)) pss_nil) (pss_one (ps_if (pt_not (pt_truthK K (pe_callH h_law_bent_right (hr.mono (by first | decide | omega)) (by rfl) pass0 (pa_cons (pv 2) (pa_cons (pv 4) (pa_cons (pv 5) (pa_cons (pe_callH h_law_any_order (hr.mono (by first | decide | omega)) (by rfl) pass0 (pa_cons (pv 2) (pa_cons (pv 5) pa_nil))) pa_nil))))) (by intro _; rfl))) (pss_one (ps_ret pe_bl)) pss_nil)))))))))))) (pss_one (ps_ret pe_bl))), ?_⟩
  refine st0 [some (.ref a), none, none, none, none, none, none, none, none, none] rfl ?_
  walk_at "go"
  rw [hl]
  obtain ⟨m, em, m1, m2⟩ : ∃ m : Int, (if (if (3 : Int) < (ns.length : Int) then (3 : Int) else (ns.length : Int)) > 1 then (if (3 : Int) < (ns.length : Int) then (3 : Int) else (ns.length : Int)) else 1) = m ∧ 1 ≤ m ∧ m ≤ 3 := by
    refine ⟨_, rfl, ?_⟩
    split <;> split <;> omega
  rw [em]
  walk_at "go"
  refine forR (fun i σ H' => ∃ (o1 o2 o3 o4 o5 o6 o7 o8 o9 : Option V), σ = [some (.ref a), o1, o2, o3, o4, o5, o6, o7, o8, o9] ∧ SqL K H' a (ns.map V.int)) ⟨_, _, _, _, _, _, _, _, _, rfl, hL⟩ ?_ ?_
  · rintro i σ H1 hi ⟨o1, o2, o3, o4, o5, o6, o7, o8, o9, rfl, hL'⟩
    walk_at "go"
    refine ⟨a, ns, _, rfl, hL', by omega, by omega, fun H2 p s2 hp hS => ?_⟩
    walk_at "go"
    refine use_take hS (by omega) (by omega) fun H3 r3 s3 hS3 h30 h31 => ?_
    walk_at "go"
    refine use_take hS3 (by omega) (by omega) fun H4 r4 s4 hS4 h40 h41 => ?_
    apply shareI
    case h =>
      intro key
      walk_at "go"
      refine rd_split (fun c => ?_) (fun c => ?_)
      · walk_at "go"
        obtain ⟨most, emo⟩ : ∃ most : Int, (40 : Int) = most := ⟨_, rfl⟩
        rw [emo]
        exact key most (by omega) (by omega)
      · walk_at "go"
        obtain ⟨most, emo⟩ : ∃ most : Int, 1 + r3 = most := ⟨_, rfl⟩
        rw [emo]
        exact key most (by omega) (by omega)
    case main =>
    intro most mo1 mo2
    walk_at "go"
    refine ⟨p, most, rfl, hS4, mo1, mo2, fun H5 u j s ks s5 hS5 ru gj hj => ?_⟩
    have gx := gj.fx
    have nof := gj.nofault
    have j40 : j.cnt ≤ 40 := by omega
    have hul := ups_len j (-1) 0
    have sb5 := (s3.trans s4).trans s5
    have hjj : j.all[0]? = some j := by
      obtain ⟨op, td, parts⟩ := j
      simp only [Jn.all, List.getElem?_cons_zero]
    clear s3 s4 s5 hS3 hS4 gj
    walk_at "go"
    refine use_kin ru gx.ok j40 fun H6 b rows s6 hb6 eb hK hN => ?_
    have hbp : b ≠ p := hS5.ne hb6
    have hra : ∀ (x : Nat) (r : Addr), rows[x]? = some (.ref r) → r ≠ p := fun x r hx => hS5.ne (hN x r hx)
    have sb6 := sb5.trans (SB.of_same s6)
    have hS6 := hS5.same s6
    have ru6 := ru.mono (Ext.of_same s6) _ _
    clear s6 hb6 hN sb5 hS5 ru
    walk_at "go"
    refine use_fo ru6 gx.ok j40 (gx.walk j40) fun H7 pf s7 hpf => ?_
    have sb7 := sb6.trans (SB.of_same s7)
    have hS7 := hS6.same s7
    have ru7 := ru6.mono (Ext.of_same s7) _ _
    have eb7 := s7 _ _ eb
    have hK7 := hK.same s7
    clear s7 sb6 hS6 ru6 eb hK
    walk_at "go"
    refine use_bd (x := 0) hS7 hbp eb7 hK7 hra j40 gx.ok hjj j40 fun H8 rb lb s8 hS8 nrb hrb erb hB => ?_
    walk_at "go"
    refine u_tupF (SqL.of erb) fun pb H9 s89 hpb9 => ?_
    have s9 : SB p H7 H9 := s8.trans (SB.of_same s89)
    have hS9 := hS8.same s89
    have sb9 := sb7.trans s9
    have e9 := hS7.ext (K := K) s9
    have ru9 := ru7.mono e9 _ _
    have eb9 := s9 _ _ hbp eb7
    have hK9 := hK7.sb hra s9
    have hpf9 := FT.sb hpf s9 (hS7.neF hpf)
    clear s8 hS8 nrb hrb erb s89 s9 hS7 sb7 ru7 eb7 hK7 hpf e9
    have hBp := post_bro j.cnt j 0 (Nat.le_refl _) hjj
    have hVf := bro_vd hBp
    have hVb := bro_vd hB
    have l40 : (Jn.post j 0).length = j.cnt := hVf.len
    walk_at "go"
    have rf9 : Rp K H9 (.ref pf) (.tuple (((Jn.post j 0).map fun (k : Nat) => (k : Int)).map PyData.int)) := .tup (by rw [← nV_ints]; exact hpf9.sq) (Rps.ints _)
    refine u_isi (.inr (.inr (.inl rfl))) rf9 ?_
    refine ⟨true, rfl, ?_⟩
    refine iteF ?_
    walk_at "go"
    refine use_fl (x := 0) eb9 hK9 j40 gx.ok hjj j40 fun HA rl sA hrl erl => ?_
    walk_at "go"
    refine u_tupF (SqL.of erl) fun pl HB sAB hpl => ?_
    have sA2 := sA.trans sAB
    have rl9 : Rp K HB (.ref pl) (.tuple (((Jn.post j 0).map fun (k : Nat) => (k : Int)).map PyData.int)) := .tup (by rw [← nV_ints]; exact hpl.sq) (Rps.ints _)
    have hdat : dat (.tuple (((Jn.post j 0).map fun (k : Nat) => (k : Int)).map PyData.int)) := by
      simp only [dat]
      refine ⟨?_, dats_nV _⟩
      rw [List.length_map, List.length_map, l40]
      omega
    refine g_neD (Rp.dp _ _ (rf9.mono (Ext.of_same sA2) _ _)) (Rp.dp _ _ rl9) (dat_lay _ hdat) (dat_lay _ hdat) ?_ ?_
    · have := ints_deepJ ((Jn.post j 0).map fun (k : Nat) => (k : Int))
      simp only [PyData.depth, this]
      omega
    rw [eqv_same _ hdat]
    refine ⟨false, rfl, ?_⟩
    refine iteF ?_
    have sbB := sb9.trans (SB.of_same sA2)
    have hSB := hS9.same sA2
    have ruB := ru9.mono (Ext.of_same sA2) _ _
    have ebB := sA2 _ _ eb9
    have hKB := hK9.same sA2
    have hpfB := FT.same hpf9 sA2
    have hpbB := FT.same hpb9 sA2
    clear rf9 rl9 sA sA2 hrl erl hpl hdat sAB sb9 hS9 ru9 eb9 hK9 hpf9 hpb9
    walk_at "go"
    refine use_ao hSB hbp ebB hKB hra j40 fun HC pa la sC hSC hpa hVa => ?_
    have eC := hSB.ext (K := K) sC
    have sbC := sbB.trans sC
    have ruC := ruB.mono eC _ _
    have ebC := sC _ _ hbp ebB
    have hKC := hKB.sb hra sC
    have hpfC := FT.sb hpfB sC (hSB.neF hpfB)
    have hpbC := FT.sb hpbB sC (hSB.neF hpbB)
    clear sC eC sbB hSB ruB ebB hKB hpfB hpbB
    walk_at "go"
    refine use_nb hSC hbp ebC (by rw [hul]; exact hKC) hra (by omega) hpbC (by rw [hul]; exact hVb) fun HD pn ln sD hSD hpn hVn => ?_
    rw [hul] at hVn
    have eD := hSC.ext (K := K) sD
    have sbD := sbC.trans sD
    have ruD := ruC.mono eD _ _
    have ebD := sD _ _ hbp ebC
    have hKD := hKC.sb hra sD
    have hpfD := FT.sb hpfC sD (hSC.neF hpfC)
    have hpbD := FT.sb hpbC sD (hSC.neF hpbC)
    have hpaD := FT.sb hpa sD (hSC.neF hpa)
    clear sD eD sbC hSC ruC ebC hKC hpfC hpbC hpa
    walk_at "go"
    refine ⟨lk rfl, fun pk hpk => ?_⟩
    have sE := same_new hpk (.lst [.ref pf, .ref pb, .ref pa, .ref pn])
    have fE : (upd HD pk (.lst [.ref pf, .ref pb, .ref pa, .ref pn])) pk = some (.lst [.ref pf, .ref pb, .ref pa, .ref pn]) := upd_same
    generalize upd HD pk (.lst [.ref pf, .ref pb, .ref pa, .ref pn]) = HEx at *
    have sbE := sbD.trans (SB.of_same sE)
    have hSE := hSD.same sE
    have ruE := ruD.mono (Ext.of_same sE) _ _
    have ebE := sE _ _ ebD
    have hKE := hKD.same sE
    have hpfE := FT.same hpfD sE
    have hpbE := FT.same hpbD sE
    have hall : ∀ x ∈ [V.ref pf, .ref pb, .ref pa, .ref pn], ∃ (q : Addr) (l : List Nat), x = .ref q ∧ HE.FT HEx q (nV l) ∧ Vd (kinN (j.ups (-1) 0)) j.cnt l := by
      intro x hx
      simp only [List.mem_cons, List.not_mem_nil, or_false] at hx
      rcases hx with rfl | rfl | rfl | rfl
      · exact ⟨_, _, rfl, hpfE, hVf⟩
      · exact ⟨_, _, rfl, hpbE, hVb⟩
      · exact ⟨_, _, rfl, FT.same hpaD sE, hVa⟩
      · exact ⟨_, _, rfl, FT.same hpn sE, hVn⟩
    clear sE hpk sbD hSD ruD ebD hKD hpfD hpbD hpaD hpn
    walk_at "go"
    try refine rd_itL (SqL.of fE) ?_
    refine forL (xs := [V.ref pf, .ref pb, .ref pa, .ref pn]) (fun t σ H' => ∃ (o8 o9 : Option V), σ = [some (.ref a), some (.int (0 + (i : Int))), some (.ref p), some (.int most), some u, some (.ref b), some (.ref pf), some (.ref pb), o8, o9] ∧ Same HEx H') ⟨_, _, rfl, Same.refl _⟩ ?_ ?_ ?_
    · rintro t σ H' ht ⟨o8, o9, rfl, k1⟩
      exact SqL.of (k1 _ _ fE)
    · rintro t x σ H' hx ⟨o8, o9, rfl, k1⟩
      obtain ⟨q1, l, rfl, hq1, hVq⟩ := hall x (List.mem_of_getElem? hx)
      walk_at "go"
      refine use_bw (ruE.mono (Ext.of_same k1) _ _) gx.ok j40 (gx.walk j40) (FT.same hq1 k1).sq hVq fun HF sF => ?_
      walk_at "go"
      refine u_isi (d := .bool _) (.inr (.inr (.inr rfl))) (Rp.bl _) ?_
      refine ⟨true, rfl, ?_⟩
      refine iteF ?_
      walk_at "go"
      have k2 := k1.trans sF
      refine use_sb (k2 _ _ ebE) (hKE.same k2) j40 gx.ok (FT.same hq1 k2) hVq fun HG sG => ?_
      walk_at "go"
      rw [show (!decide (sbB j l = sbB j l)) = false by simp]
      refine iteF ?_
      walk_at "go"
      exact ⟨_, _, rfl, k2.trans sG⟩
    rintro σ HF ⟨o8, o9, rfl, k1⟩
    have sbF := sbE.trans (SB.of_same k1)
    have hSF := hSE.same k1
    have ruF := ruE.mono (Ext.of_same k1) _ _
    have ebF := k1 _ _ ebE
    have hKF := hKE.same k1
    have hpfF := FT.same hpfE k1
    have hpbF := FT.same hpbE k1
    clear hall fE k1 sbE hSE ruE ebE hKE hpfE hpbE
    walk_at "go"
    refine use_bw ruF gx.ok j40 (gx.walk j40) hpfF.sq hVf fun HG sG => ?_
    rw [bro_sb hBp]
    walk_at "go"
    refine iteF ?_
    walk_at "go"
    refine use_bw (ruF.mono (Ext.of_same sG) _ _) gx.ok j40 (gx.walk j40) (FT.same hpbF sG).sq hVb fun HH sH => ?_
    rw [bro_sb hB]
    walk_at "go"
    refine iteF ?_
    walk_at "go"
    have k2 := sG.trans sH
    have sbH := sbF.trans (SB.of_same k2)
    have hSH := hSF.same k2
    refine use_ao hSH hbp (k2 _ _ ebF) (hKF.same k2) hra j40 fun HI pa2 la2 sI hSI hpa2 hVa2 => ?_
    have eI := hSH.ext (K := K) sI
    walk_at "go"
    refine use_br hSI hbp (sI _ _ hbp (k2 _ _ ebF)) ((hKF.same k2).sb hra sI) hra ((ruF.mono (Ext.of_same k2) _ _).mono eI _ _) gx nof j40 hpa2.sq hVa2 fun HJ sJ hSJ => ?_
    walk_at "go"
    refine iteF ?_
    walk_at "go"
    exact ⟨_, _, _, _, _, _, _, _, _, rfl, seq_on hL' s2 hp ((sbH.trans sI).trans sJ)⟩
  · rintro σ H' ⟨o1, o2, o3, o4, o5, o6, o7, o8, o9, rfl, hL'⟩
    walk_at "go"
    exact q _
end
end Mine

/-! ### F1 -/
namespace Mine
open PySem PySem.Spec L2
/-! ## facts of the written part, made ready -/
section
variable {K : PySem.W.Frag} {h : Heap} {mg : Str → Option Value}
theorem ownF_mk {x : Str} {st : Stmt} {f : Addr} {oc : Value} {od an : Option Addr} {osl : Array (Option Value)} {kV doc pm cdv ct : Value} (X : K.In h) (G : h.Ns mainGlobals mg) (a : PySem.W.nsIn K mainGlobals x = some (some (.ref f)))
    (l : K.lookup f = some ⟨oc, od, .func (PySem.W.fnOf x x (defArgs st) (defBody st) (defScope st) .none kV doc pm an cdv ct), osl⟩)
    (c : PySem.W.codeIn K cdv x = true) (k : PySem.W.keepIn K (.ref f) = true) : OwnF K mg x st := ⟨f, _, fun_mk (st := st) l c k, PySem.W.mg_of X G a⟩
theorem int_mk {x : Str} {i : Int} {t : Tok} (X : K.In h) (G : h.Ns mainGlobals mg) (a : PySem.W.nsIn K mainGlobals x = some (some (.int i t))) : ∃ t, mg x = some (.int i t) := ⟨t, PySem.W.mg_of X G a⟩
theorem str_mk {x z : Str} {t : Tok} (X : K.In h) (G : h.Ns mainGlobals mg) (a : PySem.W.nsIn K mainGlobals x = some (some (.str z t))) : ∃ t, mg x = some (.str z t) := ⟨t, PySem.W.mg_of X G a⟩
/-! the two tables -/
def entB (e : DictEntry) : Option (Str × Addr) := match e.key, e.val with
  | .str x _, .ref b => some (x, b)
  | _, _ => none
def tabG (L : List (Str × Addr)) (z : Str) : Option Value := (L.find? fun p => p.1 == z).map fun p => .ref p.2
theorem ents_find {z : Str} : ∀ {es : List DictEntry} {L : List (Str × Addr)}, es.map entB = L.map some → (es.find? (·.key.isStr z)).map (·.val) = tabG L z ∧ es.any (·.refKey) = false
  | [], [], _ => ⟨rfl, rfl⟩
  | [], _ :: _, h => by simp at h
  | _ :: _, [], h => by simp at h
  | e :: es, p :: L, h => by
    rw [List.map_cons, List.map_cons] at h
    injection h with h1 h2
    obtain ⟨i1, i2⟩ := ents_find (z := z) h2
    obtain ⟨x, b⟩ := p
    have hk : ∃ t, e.key = .str x t ∧ e.val = .ref b := by
      unfold entB at h1
      split at h1
      · rename_i x' t' b' e1 e2
        cases h1
        exact ⟨t', e1, e2⟩
      · cases h1
    obtain ⟨t, k1, k2⟩ := hk
    have e3 : e.key.isStr z = (x == z) := by rw [k1] <;> rfl
    refine ⟨?_, ?_⟩
    · unfold tabG at i1 ⊢
      rw [List.find?_cons, List.find?_cons, e3]
      cases hx : (x == z) with
      | true => simp only [Option.map_some, k2]
      | false => exact i1
    · rw [List.any_cons, i2, Bool.or_false]
      unfold DictEntry.refKey
      rw [k1] <;> rfl
theorem tab_mk {w : World} {x : Str} {a : Addr} {es : Array DictEntry} {n : Nat} {L : List (Str × Addr)} (X : K.In h) (G : h.Ns mainGlobals mg) (e : PySem.W.nsIn K mainGlobals x = some (some (.ref a))) (l : K.lookup a = some ⟨.type "dict", none, .dict es n, #[]⟩)
    (lit : PySem.W.KeysLit w.params es.toList) (low : (a == sysModules) = false) (hL : es.toList.map entB = L.map some) : Tab w K mg x a (tabG L) := by
  refine ⟨PySem.W.mg_of X G e, ⟨es, n, l, lit, low⟩, fun z => ?_⟩
  obtain ⟨f1, f2⟩ := ents_find (z := z) hL
  unfold PySem.W.nsIn
  rw [l]
  simp only
  rw [← f1]
  cases hf : es.toList.find? (·.key.isStr z) with
  | some e => rfl
  | none => simp only [f2]; rfl
/-! the errors -/
theorem exm_mk {C S : Addr} {b : Bool} (h1 : PySem.W.subIn K (.ref S) (.type "BaseException") = some true) (h2 : PySem.W.isClsIn K S = true) (h3 : PySem.W.typeIn K (.ref S) = some (.type "type")) (h4 : PySem.W.subIn K (.ref C) (.ref S) = some b) :
    PySem.W.exmOne K (.ref C) (.ref S) = some b := by
  have e1 : (PySem.W.subIn K (.ref S) (.type "BaseException") == some true) = true := by rw [h1] <;> rfl
  have e2 : ((PySem.W.clsIn K S).isSome && PySem.W.typeIn K (.ref S) == some (.type "type")) = true := by
    have h2' : (PySem.W.clsIn K S).isSome = true := h2
    rw [h2', h3] <;> rfl
  show (if (PySem.W.subIn K (.ref S) (.type "BaseException") == some true) = true then (if ((PySem.W.clsIn K S).isSome && PySem.W.typeIn K (.ref S) == some (.type "type")) = true then PySem.W.subIn K (.ref C) (.ref S) else none) else none) = some b
  rw [if_pos e1, if_pos e2]
  exact h4
theorem errC_mk {x : Str} {C fI N : Addr} {nm q : Str} {bs bm : List Value} {sn : List Str} {sub : List Value} {ab : Bool} {col : Option Bool} {dd : Option Addr} {m0 m1 m2 m3 m5 : Option Value} (X : K.In h) (G : h.Ns mainGlobals mg)
    (aC : PySem.W.nsIn K mainGlobals x = some (some (.ref C))) (xL : K.lookup C = some (excClassObj nm q C N bs bm true sn sub ab col dd m0 m1 m2 m3 m5 "ValueError.__new__")) (bmB : PySem.HandSPX.refsVE bm = true)
    (sa : PySem.W.findIn K (.ref C) "__setattr__" = some (some (.builtin "object.__setattr__"))) (ga : PySem.W.findIn K (.ref C) "__getattribute__" = some (some (.builtin "BaseException.__getattribute__"))) (gg : PySem.W.findIn K (.ref C) "__getattr__" = some none) (nb : PySem.W.findIn K (.ref C) "what" = some none)
    (iC : PySem.W.findIn K (.ref C) "__init__" = some (some (.ref fI))) (kC : PySem.W.keepIn K (.ref C) = true) (eC : PySem.W.subIn K (.ref C) (.type "BaseException") = some true) (tC : PySem.W.typeIn K (.ref C) = some (.type "type")) (hC : PySem.W.hasDictIn K C = true) : ErrC K mg fI x C :=
  ⟨PySem.W.mg_of X G aC, ⟨⟨nm, q, N, bs, bm, sn, sub, ab, col, dd, m0, m1, m2, m3, m5, xL, bmB⟩, sa, eC, tC, kC⟩, nb, iC, ⟨ga, gg, eC, hC⟩⟩
end
/-! ## the root's __init__ -/
def initSt : Stmt := match top 1 with
  | .ClassDef _ _ _ (s :: _) _ _ _ _ _ _ _ => s
  | s => s
theorem sc_init : FnScope ["self", "what"] ["self", "what"] (defScope initSt) := ⟨rfl, rfl, rfl, by decide +kernel, rfl, by decide +kernel, by decide +kernel⟩
theorem init_mk {P : Program} {w : World} {K : PySem.W.Frag} {mg : Str → Option Value} {base : Heap} {fI : Addr} {fd : FuncData} (F : Fun K "__init__" "Refused.__init__" initSt fI fd) (ht : PySem.W.typeIn K (.ref fI) = some (.type "function")) : InitF P w K mg base fI := by
  refine has_init F sc_init (fun _ _ _ _ _ _ us hl => match us, hl with | [_, _], _ => rfl) ht fun cdv A outer s H E => ?_
  exact pss_one (ps_ost (pv 0) (pv 1))
end Mine

/-! ### F2 -/
namespace Mine
open PySem PySem.Spec L2
section
variable {P : Program} {w : World} {K : PySem.W.Frag} {mg : Str → Option Value} {base : Heap}
theorem HasF.at {k : Nat} {x : Str} {ps : List Str} {sp : Sp} {b : Addr} (h : HasF P w K mg base CX0 k x ps sp) (m : mg x = some (.ref b)) : Held P w K mg base k b sp := by
  obtain ⟨f, m2, hh⟩ := h.held
  have := m2.symm.trans m
  cases this
  exact hh
/-- the defs -/
structure Own (K : PySem.W.Frag) (mg : Str → Option Value) : Prop where
  o0 : OwnF K mg "is_number" s_is_number
  o1 : OwnF K mg "is_between" s_is_between
  o2 : OwnF K mg "are_row_numbers" s_are_row_numbers
  o3 : OwnF K mg "is_word" s_is_word
  o4 : OwnF K mg "tells_row" s_tells_row
  o5 : OwnF K mg "tells_input" s_tells_input
  o6 : OwnF K mg "tells_stretch" s_tells_stretch
  o7 : OwnF K mg "tells_times" s_tells_times
  o8 : OwnF K mg "tells_room" s_tells_room
  o9 : OwnF K mg "told_fits" s_told_fits
  o10 : OwnF K mg "parts_fit" s_parts_fit
  o11 : OwnF K mg "check_count" s_check_count
  o12 : OwnF K mg "check_form" s_check_form
  o13 : OwnF K mg "is_triple" s_is_triple
  o14 : OwnF K mg "check_joint" s_check_joint
  o15 : OwnF K mg "made_program" s_made_program
  o16 : OwnF K mg "joints" s_joints
  o17 : OwnF K mg "above" s_above
  o18 : OwnF K mg "part_numbers" s_part_numbers
  o19 : OwnF K mg "size_of" s_size_of
  o20 : OwnF K mg "checked_size" s_checked_size
  o21 : OwnF K mg "check_names" s_check_names
  o22 : OwnF K mg "sizes" s_sizes
  o23 : OwnF K mg "_law_pool" s_law_pool
  o24 : OwnF K mg "_law_take" s_law_take
  o25 : OwnF K mg "_law_one" s_law_one
  o26 : OwnF K mg "_law_figure" s_law_figure
  o27 : OwnF K mg "_law_leaf" s_law_leaf
  o28 : OwnF K mg "_law_single" s_law_single
  o29 : OwnF K mg "_law_double" s_law_double
  o30 : OwnF K mg "_law_count" s_law_count
  o31 : OwnF K mg "_law_program" s_law_program
  o32 : OwnF K mg "_law_over" s_law_over
  o33 : OwnF K mg "_law_kin" s_law_kin
  o34 : OwnF K mg "bough_sizes" s_bough_sizes
  o35 : OwnF K mg "is_sized" s_is_sized
  o36 : OwnF K mg "may_come" s_may_come
  o37 : OwnF K mg "order_fault" s_order_fault
  o38 : OwnF K mg "check_order" s_check_order
  o39 : OwnF K mg "is_order" s_is_order
  o40 : OwnF K mg "first_order" s_first_order
  o41 : OwnF K mg "branchwise" s_branchwise
  o42 : OwnF K mg "_law_any_order" s_law_any_order
  o43 : OwnF K mg "_law_branched" s_law_branched
  o44 : OwnF K mg "_law_from_left" s_law_from_left
  o45 : OwnF K mg "_law_under" s_law_under
  o46 : OwnF K mg "_law_side_by_side" s_law_side_by_side
  o47 : OwnF K mg "_law_neighbours" s_law_neighbours
  o48 : OwnF K mg "_law_fault" s_law_fault
  o49 : OwnF K mg "_law_bent" s_law_bent
  o50 : OwnF K mg "_law_told" s_law_told
  o51 : OwnF K mg "_law_bent_right" s_law_bent_right
/-- the errors -/
structure Errs (K : PySem.W.Frag) (mg : Str → Option Value) (fI cRefused cBadProgram cBadOp cBadParts cUnequal cBadPart cTooGreat cTooMany cBadInput cBadOrder : Addr) : Prop where
  eRefused : ErrC K mg fI "Refused" cRefused
  eBadProgram : ErrC K mg fI "BadProgram" cBadProgram
  eBadOp : ErrC K mg fI "BadOp" cBadOp
  eBadParts : ErrC K mg fI "BadParts" cBadParts
  eUnequal : ErrC K mg fI "Unequal" cUnequal
  eBadPart : ErrC K mg fI "BadPart" cBadPart
  eTooGreat : ErrC K mg fI "TooGreat" cTooGreat
  eTooMany : ErrC K mg fI "TooMany" cTooMany
  eBadInput : ErrC K mg fI "BadInput" cBadInput
  eBadOrder : ErrC K mg fI "BadOrder" cBadOrder
  xBadOrder_BadOrder : PySem.W.exmOne K (.ref cBadOrder) (.ref cBadOrder) = some true
  xUnequal_Refused : PySem.W.exmOne K (.ref cUnequal) (.ref cRefused) = some true
  xBadPart_Refused : PySem.W.exmOne K (.ref cBadPart) (.ref cRefused) = some true
  xTooGreat_Refused : PySem.W.exmOne K (.ref cTooGreat) (.ref cRefused) = some true
  xBadInput_Refused : PySem.W.exmOne K (.ref cBadInput) (.ref cRefused) = some true
/-- a pair of numbers of the module -/
theorem pair_mk {K : PySem.W.Frag} {b : Addr} {lo hi : Int} {t1 t2 : Tok} {dd : Option Addr} {n : Nat} {sl : Array (Option Value)} (l : K.lookup b = some ⟨.type "tuple", dd, .seq #[.int lo t1, .int hi t2] n, sl⟩) : ∀ H, SqT K H b [.int lo, .int hi] :=
  fun H => .inr ⟨_, _, _, l, rfl, rfl, by show 2 ≤ sizeLine; decide, .cons ⟨t1, rfl⟩ (.cons ⟨t2, rfl⟩ .nil)⟩
/-- the pairs of the table of the ops -/
inductive Prs (K : PySem.W.Frag) : List (Str × Addr) → List (Str × Int × Int) → Prop
  | nil : Prs K [] []
  | cons {p : Str × Addr} {r : Str × Int × Int} {L : List (Str × Addr)} {M : List (Str × Int × Int)} : (p.1 = r.1 ∧ ∀ H, SqT K H p.2 [.int r.2.1, .int r.2.2]) → Prs K L M → Prs K (p :: L) (r :: M)
def arts : List (Str × Int × Int) := [("row", 0, 0), ("in", 0, 0), ("rev", 1, 1), ("sort", 1, 1), ("sum", 1, 1), ("top", 1, 1), ("add", 2, 2), ("sub", 2, 2), ("mul", 2, 2), ("dot", 2, 2), ("cat", 1, 4), ("outer", 2, 2), ("blend", 2, 2), ("part", 1, 1), ("rep", 1, 1), ("hold", 1, 1)]
theorem prs_find {K : PySem.W.Frag} {z : Str} : ∀ {L : List (Str × Addr)} {M : List (Str × Int × Int)}, Prs K L M → ((M.find? fun p => p.1 == z) = none → tabG L z = none) ∧ ∀ q, (M.find? fun p => p.1 == z) = some q → ∃ b, tabG L z = some (.ref b) ∧ ∀ H, SqT K H b [.int q.2.1, .int q.2.2]
  | _, _, .nil => ⟨fun _ => rfl, fun q h => by simp at h⟩
  | _, _, .cons (p := p) (r := r) h t => by
    obtain ⟨i1, i2⟩ := prs_find (z := z) t
    unfold tabG at i1 i2 ⊢
    rw [List.find?_cons, List.find?_cons, h.1]
    cases hx : (r.1 == z) with
    | true => exact ⟨fun h => by simp at h, fun q e => by
        have e' : r = q := by simpa using e
        subst e'
        exact ⟨p.2, rfl, h.2⟩⟩
    | false => exact ⟨i1, i2⟩
theorem arity_arts {z : Str} : arity z = (arts.find? fun p => p.1 == z).map (·.2) := by
  have k : ∀ y ∈ arts.map (·.1), arity y = (arts.find? fun p => p.1 == y).map (·.2) := by decide +kernel
  by_cases c : z ∈ arts.map (·.1)
  · exact k z c
  have e1 : (arts.find? fun p => p.1 == z) = none := by
    rw [List.find?_eq_none]
    intro x hx hz
    have hz' : x.1 = z := by simpa using hz
    exact c (hz' ▸ List.mem_map_of_mem hx)
  rw [e1]
  have k0 : ∀ y ∈ op0, y ∈ arts.map (·.1) := by decide +kernel
  have k1 : ∀ y ∈ op1, y ∈ arts.map (·.1) := by decide +kernel
  have k2 : ∀ y ∈ op2, y ∈ arts.map (·.1) := by decide +kernel
  have k3 : ("cat" : Str) ∈ arts.map (·.1) := by decide +kernel
  unfold arity
  rw [if_neg (fun h => c (k0 z h)), if_neg (fun h => c (k1 z h)), if_neg (fun h => c (k2 z h)), if_neg (fun (h : z = "cat") => c (by rw [h]; exact k3))]
  rfl
theorem parts_tab {w : World} {K : PySem.W.Frag} {mg : Str → Option Value} {a : Addr} {L : List (Str × Addr)} (T : Tab w K mg "PARTS" a (tabG L)) (h : Prs K L arts) : PartsTab w K mg a (tabG L) := by
  refine ⟨T, fun z hz => ?_, fun z lo hi hz => ?_⟩
  · obtain ⟨i1, _⟩ := prs_find (z := z) h
    rw [arity_arts] at hz
    exact i1 (by simpa using hz)
  · obtain ⟨_, i2⟩ := prs_find (z := z) h
    rw [arity_arts, Option.map_eq_some_iff] at hz
    obtain ⟨q, e1, e2⟩ := hz
    obtain ⟨b, e3, e4⟩ := i2 q e1
    rw [e2] at e4
    exact ⟨b, e3, e4⟩
theorem all_mk {fI aP aT b0 b1 b2 b3 b4 cRefused cBadProgram cBadOp cBadParts cUnequal cBadPart cTooGreat cTooMany cBadInput cBadOrder : Addr} {gP : Str → Option Value} {fdI : FuncData} {f : Addr} {fd : FuncData} (F : Fun K "law" "law" s_law f fd)
    (B : Bl mg) (BS : mg "sum" = none) (BR : mg "reversed" = none) (C : Cst mg) (TP : PartsTab w K mg aP gP) (tT : Tab w K mg "TELLS" aT (tabG [("row", b0), ("in", b1), ("part", b2), ("rep", b3), ("hold", b4)])) (n0 : mg "tells_row" = some (.ref b0)) (n1 : mg "tells_input" = some (.ref b1)) (n2 : mg "tells_stretch" = some (.ref b2)) (n3 : mg "tells_times" = some (.ref b3)) (n4 : mg "tells_room" = some (.ref b4)) (FI : Fun K "__init__" "Refused.__init__" initSt fI fdI) (tI : PySem.W.typeIn K (.ref fI) = some (.type "function")) (Er : Errs K mg fI cRefused cBadProgram cBadOp cBadParts cUnequal cBadPart cTooGreat cTooMany cBadInput cBadOrder) (OP : Own K mg) :
    FnOk P w K mg base CX0 44 f fd ["script"] (spLaw K) := by
  have hI : InitF P w K mg base fI := init_mk FI tI
  have p1 := has_is_number (P := P) (w := w) (base := base) OP.o0 B
  have p2 := has_is_between OP.o1 p1
  have p3 := has_are_row_numbers OP.o2 B C p2
  have p4 := has_is_word (P := P) (w := w) (base := base) OP.o3 B C
  have p5 := has_tells_row OP.o4 B C p3
  have p6 := has_tells_input OP.o5 B C p4 p2
  have p7 := has_tells_stretch OP.o6 B C p2
  have p8 := has_tells_times OP.o7 B C p2
  have p9 := has_tells_room OP.o8 B C p2
  have TT : TellsTab P w K mg base aT (tabG [("row", b0), ("in", b1), ("part", b2), ("rep", b3), ("hold", b4)]) := by
    refine ⟨tT, fun z hz => ?_, fun z f hz => ?_⟩
    · unfold asks at hz
      by_cases c1 : z = "row"
      · rw [if_pos c1] at hz; cases hz
      rw [if_neg c1] at hz
      by_cases c2 : z = "in"
      · rw [if_pos c2] at hz; cases hz
      rw [if_neg c2] at hz
      by_cases c3 : z = "part"
      · rw [if_pos c3] at hz; cases hz
      rw [if_neg c3] at hz
      by_cases c4 : z = "rep"
      · rw [if_pos c4] at hz; cases hz
      rw [if_neg c4] at hz
      by_cases c5 : z = "hold"
      · rw [if_pos c5] at hz; cases hz
      unfold tabG
      simp [List.find?_cons, beq_eq_false_iff_ne.mpr (Ne.symm c1), beq_eq_false_iff_ne.mpr (Ne.symm c2), beq_eq_false_iff_ne.mpr (Ne.symm c3), beq_eq_false_iff_ne.mpr (Ne.symm c4), beq_eq_false_iff_ne.mpr (Ne.symm c5)]
    · unfold asks at hz
      by_cases c1 : z = "row"
      · rw [if_pos c1] at hz; cases hz; subst c1
        exact ⟨b0, rfl, p5.at n0⟩
      rw [if_neg c1] at hz
      by_cases c2 : z = "in"
      · rw [if_pos c2] at hz; cases hz; subst c2
        exact ⟨b1, rfl, p6.at n1⟩
      rw [if_neg c2] at hz
      by_cases c3 : z = "part"
      · rw [if_pos c3] at hz; cases hz; subst c3
        exact ⟨b2, rfl, p7.at n2⟩
      rw [if_neg c3] at hz
      by_cases c4 : z = "rep"
      · rw [if_pos c4] at hz; cases hz; subst c4
        exact ⟨b3, rfl, p8.at n3⟩
      rw [if_neg c4] at hz
      by_cases c5 : z = "hold"
      · rw [if_pos c5] at hz; cases hz; subst c5
        exact ⟨b4, rfl, p9.at n4⟩
      rw [if_neg c5] at hz; cases hz
  have p10 := has_told_fits OP.o9 B TP TT
  have p11 := has_parts_fit (P := P) (base := base) OP.o10 TP
  have p12 := has_check_count OP.o11 C hI Er.eTooMany
  have p13 := has_check_form OP.o12 hI Er.eBadOp Er.eBadParts p10 p11
  have p14 := has_is_triple (P := P) (w := w) (base := base) OP.o13 B
  have p15 := has_check_joint (c := ⟨cTooMany, cBadProgram, cBadOp, cBadParts⟩) OP.o14 B hI Er.eBadProgram p12 p14 p13
  have p16 := has_made_program OP.o15 p15
  have p17 := has_joints OP.o16 B p16
  have p18 := has_above OP.o17 B p16
  have p19 := has_part_numbers OP.o18 B p18
  have p20 := has_size_of (P := P) (w := w) (base := base) OP.o19 B BS
  have p22 := has_checked_size (c := ⟨cUnequal, cBadPart, cTooGreat, cBadInput⟩) OP.o20 B C hI Er.eUnequal Er.eBadPart Er.eTooGreat p20
  have p23 := has_check_names (c := ⟨cUnequal, cBadPart, cTooGreat, cBadInput⟩) OP.o21 hI Er.eBadInput
  have p24 := has_sizes OP.o22 B BR p17 p19 p22 p23
  have m1 := has_pool (P := P) (w := w) (base := base) OP.o23 B
  have m2 := has_take (P := P) (w := w) (base := base) OP.o24 B
  have m3 := has_one OP.o25 B m2
  have m4 := has_figure OP.o26 m2 m3
  have m5 := has_leaf OP.o27 B m2 m4
  have m6 := has_single OP.o28 m2
  have m7 := has_double OP.o29 m2
  have m8 := has_count (P := P) (w := w) (base := base) OP.o30 B
  have m9 := has_program OP.o31 B BS m2 m5 m6 m7 m8
  have m11 := has_law_over (P := P) (w := w) (base := base) OP.o32 B
  have m12 := has_law_kin OP.o33 B m11
  have q1 := has_bough_sizes OP.o34 B BR p18
  have q2 := has_is_sized (c := ⟨cUnequal, cBadPart, cTooGreat, cBadInput⟩) OP.o35 Er.eRefused ⟨fun f => match f with | .uneq => Er.xUnequal_Refused | .part => Er.xBadPart_Refused | .great => Er.xTooGreat_Refused | .inp => Er.xBadInput_Refused⟩ p24
  have q3 := has_may_come OP.o36 B p1
  have q4 := has_order_fault OP.o37 B p19 q3
  have q5 := has_check_order OP.o38 hI Er.eBadOrder q4
  have q6 := has_is_order OP.o39 B q2 q4
  have q7 := has_first_order OP.o40 B p19
  have q8 := has_branchwise OP.o41 B q5 q1
  have r1 := has_any_order OP.o42 B m3
  have r2 := has_branched (P := P) (w := w) (base := base) OP.o43 B m2 40
  have r3 := has_from_left (P := P) (w := w) (base := base) OP.o44 B 40
  have r4 := has_under (P := P) (w := w) (base := base) OP.o45 B 40
  have r5 := has_side_by_side OP.o46 B r4
  have r6 := has_neighbours OP.o47 B m2
  have r7 := has_law_fault (P := P) (w := w) (base := base) OP.o48 B
  have r8 := has_bent OP.o49 B m2 m3
  have r9 := has_law_told OP.o50 Er.eRefused Er.eBadOrder Er.xBadOrder_BadOrder q8
  have r10 := has_bent_right OP.o51 B r8 r7 q6 r9 q8
  exact ok_law F B m1 m2 m9 m12 q7 r2 r3 r1 r6 q8 r5 r10
theorem fin_mk {h : Heap} {fa f3 : Addr} {fI aP aT b0 b1 b2 b3 b4 cRefused cBadProgram cBadOp cBadParts cUnequal cBadPart cTooGreat cTooMany cBadInput cBadOrder : Addr} {gP : Str → Option Value} {fdI : FuncData} (X : K.In h) (G : h.Ns mainGlobals mg) (hfa : mg "law" = some (.ref fa)) {oc3 : Value} {od3 an3 : Option Addr} {sl3 : Array (Option Value)} {kV3 dc3 pm3 cd3 ct3 : Value}
    (a3 : PySem.W.nsIn K mainGlobals "law" = some (some (.ref f3))) (l3 : K.lookup f3 = some ⟨oc3, od3, .func (PySem.W.fnOf "law" "law" (defArgs s_law) (defBody s_law) (defScope s_law) .none kV3 dc3 pm3 an3 cd3 ct3), sl3⟩) (c3 : PySem.W.codeIn K cd3 "law" = true) (k3 : PySem.W.keepIn K (.ref f3) = true)
    (B : Bl mg) (BS : mg "sum" = none) (BR : mg "reversed" = none) (C : Cst mg) (TP : PartsTab w K mg aP gP) (tT : Tab w K mg "TELLS" aT (tabG [("row", b0), ("in", b1), ("part", b2), ("rep", b3), ("hold", b4)])) (n0 : mg "tells_row" = some (.ref b0)) (n1 : mg "tells_input" = some (.ref b1)) (n2 : mg "tells_stretch" = some (.ref b2)) (n3 : mg "tells_times" = some (.ref b3)) (n4 : mg "tells_room" = some (.ref b4)) (FI : Fun K "__init__" "Refused.__init__" initSt fI fdI) (tI : PySem.W.typeIn K (.ref fI) = some (.type "function")) (Er : Errs K mg fI cRefused cBadProgram cBadOp cBadParts cUnequal cBadPart cTooGreat cTooMany cBadInput cBadOrder) (OP : Own K mg) :
    ∃ fd : FuncData, (∀ (s : Shared) (v : Value), BindsTo s fd ⟨[v], []⟩ [("script", v)]) ∧ ∀ base : Heap, K.In base → base.Ns mainGlobals mg → FnOk P w K mg base CX0 44 fa fd ["script"] (spLaw K) := by
  have e := hfa.symm.trans (PySem.W.mg_of X G a3)
  cases e
  exact ⟨_, fun s v => .of_eq rfl, fun base _ _ => all_mk (base := base) (fun_mk (st := s_law) l3 c3 k3) B BS BR C TP tT n0 n1 n2 n3 n4 FI tI Er OP⟩
end
/-- a class that stands in an except clause -/
structure ClsB (K : PySem.W.Frag) (S : Addr) : Prop where
  b : PySem.W.subIn K (.ref S) (.type "BaseException") = some true
  i : PySem.W.isClsIn K S = true
  t : PySem.W.typeIn K (.ref S) = some (.type "type")
theorem ClsB.exm {K : PySem.W.Frag} {C S : Addr} {b : Bool} (h : ClsB K S) (e : PySem.W.subIn K (.ref C) (.ref S) = some b) : PySem.W.exmOne K (.ref C) (.ref S) = some b := exm_mk h.b h.i h.t e
theorem errs_mk {K : PySem.W.Frag} {mg : Str → Option Value} {fI cRefused cBadProgram cBadOp cBadParts cUnequal cBadPart cTooGreat cTooMany cBadInput cBadOrder : Addr} (eRefused : ErrC K mg fI "Refused" cRefused) (eBadProgram : ErrC K mg fI "BadProgram" cBadProgram) (eBadOp : ErrC K mg fI "BadOp" cBadOp) (eBadParts : ErrC K mg fI "BadParts" cBadParts) (eUnequal : ErrC K mg fI "Unequal" cUnequal) (eBadPart : ErrC K mg fI "BadPart" cBadPart) (eTooGreat : ErrC K mg fI "TooGreat" cTooGreat) (eTooMany : ErrC K mg fI "TooMany" cTooMany) (eBadInput : ErrC K mg fI "BadInput" cBadInput) (eBadOrder : ErrC K mg fI "BadOrder" cBadOrder) (hBadOrder : ClsB K cBadOrder) (hRefused : ClsB K cRefused) (s0 : PySem.W.subIn K (.ref cBadOrder) (.ref cBadOrder) = some true) (s1 : PySem.W.subIn K (.ref cUnequal) (.ref cRefused) = some true) (s2 : PySem.W.subIn K (.ref cBadPart) (.ref cRefused) = some true) (s3 : PySem.W.subIn K (.ref cTooGreat) (.ref cRefused) = some true) (s4 : PySem.W.subIn K (.ref cBadInput) (.ref cRefused) = some true) : Errs K mg fI cRefused cBadProgram cBadOp cBadParts cUnequal cBadPart cTooGreat cTooMany cBadInput cBadOrder :=
  ⟨eRefused, eBadProgram, eBadOp, eBadParts, eUnequal, eBadPart, eTooGreat, eTooMany, eBadInput, eBadOrder, hBadOrder.exm s0, hRefused.exm s1, hRefused.exm s2, hRefused.exm s3, hRefused.exm s4⟩
end Mine

/-! ### E1 -/
open PySem PySem.W PyProof.Rows
set_option maxRecDepth 100000 in
set_option maxHeartbeats 0 in
theorem PySem.Challenge.cw_hillrooms_k10_branchwise_and_first_order_holds : PySem.Challenge.rw_hillrooms_k10_branchwise_and_first_order.Holds := by
  w_on; o_law; k_head; (case hw => w_witness2)
  k_fill
  refine L2.walk_of (l := PySem.Challenge.rw_hillrooms_k10_branchwise_and_first_order) (n := 63) (k := 44) (x := "script") (CX := fun _ => L2.CX0) (sp := fun w => Mine.spLaw _) rfl (by decide) rfl ⟨rfl, by decide, by decide⟩ (fun w h Y => PySem.W.kIn_of Y) ?F (fun _ _ a ns hl _ hS => ⟨a, ns, rfl, hS, hl, fun _ => rfl⟩) (fun _ _ _ _ _ z => z)
  case F =>
    intro w mg fa h KX G hmg
    have B : Mine.Bl mg := by
      refine' ⟨PySem.W.mg_none_of KX G ?z0, PySem.W.mg_none_of KX G ?z1, PySem.W.mg_none_of KX G ?z2, PySem.W.mg_none_of KX G ?z3, PySem.W.mg_none_of KX G ?z4, PySem.W.mg_none_of KX G ?z5, PySem.W.mg_none_of KX G ?z6, PySem.W.mg_none_of KX G ?z7, PySem.W.mg_none_of KX G ?z8, PySem.W.mg_none_of KX G ?z9, PySem.W.mg_none_of KX G ?z10, PySem.W.mg_none_of KX G ?z11, PySem.W.mg_none_of KX G ?z12⟩
      (case z0 => k_is); (case z1 => k_is); (case z2 => k_is); (case z3 => k_is); (case z4 => k_is); (case z5 => k_is); (case z6 => k_is); (case z7 => k_is); (case z8 => k_is); (case z9 => k_is); (case z10 => k_is); (case z11 => k_is); (case z12 => k_is)
    have BS : mg "sum" = none := by
      refine' PySem.W.mg_none_of KX G ?z0
      (case z0 => k_is)
    have BR : mg "reversed" = none := by
      refine' PySem.W.mg_none_of KX G ?z0
      (case z0 => k_is)
    have C : Mine.Cst mg := by
      refine' ⟨Mine.int_mk KX G ?z0, Mine.int_mk KX G ?z1, Mine.int_mk KX G ?z2, Mine.int_mk KX G ?z3, Mine.str_mk KX G ?z4, Mine.int_mk KX G ?z5⟩
      (case z0 => k_is); (case z1 => k_is); (case z2 => k_is); (case z3 => k_is); (case z4 => k_is); (case z5 => k_is)
    have OP : Mine.Own (L2.KOf KX) mg := by
      dsimp only [L2.KOf]
      refine' ⟨Mine.ownF_mk KX G ?a0 ?l0 ?c0 ?k0, Mine.ownF_mk KX G ?a1 ?l1 ?c1 ?k1, Mine.ownF_mk KX G ?a2 ?l2 ?c2 ?k2, Mine.ownF_mk KX G ?a3 ?l3 ?c3 ?k3, Mine.ownF_mk KX G ?a4 ?l4 ?c4 ?k4, Mine.ownF_mk KX G ?a5 ?l5 ?c5 ?k5, Mine.ownF_mk KX G ?a6 ?l6 ?c6 ?k6, Mine.ownF_mk KX G ?a7 ?l7 ?c7 ?k7, Mine.ownF_mk KX G ?a8 ?l8 ?c8 ?k8, Mine.ownF_mk KX G ?a9 ?l9 ?c9 ?k9, Mine.ownF_mk KX G ?a10 ?l10 ?c10 ?k10, Mine.ownF_mk KX G ?a11 ?l11 ?c11 ?k11, Mine.ownF_mk KX G ?a12 ?l12 ?c12 ?k12, Mine.ownF_mk KX G ?a13 ?l13 ?c13 ?k13, Mine.ownF_mk KX G ?a14 ?l14 ?c14 ?k14, Mine.ownF_mk KX G ?a15 ?l15 ?c15 ?k15, Mine.ownF_mk KX G ?a16 ?l16 ?c16 ?k16, Mine.ownF_mk KX G ?a17 ?l17 ?c17 ?k17, Mine.ownF_mk KX G ?a18 ?l18 ?c18 ?k18, Mine.ownF_mk KX G ?a19 ?l19 ?c19 ?k19, Mine.ownF_mk KX G ?a20 ?l20 ?c20 ?k20, Mine.ownF_mk KX G ?a21 ?l21 ?c21 ?k21, Mine.ownF_mk KX G ?a22 ?l22 ?c22 ?k22, Mine.ownF_mk KX G ?a23 ?l23 ?c23 ?k23, Mine.ownF_mk KX G ?a24 ?l24 ?c24 ?k24, Mine.ownF_mk KX G ?a25 ?l25 ?c25 ?k25, Mine.ownF_mk KX G ?a26 ?l26 ?c26 ?k26, Mine.ownF_mk KX G ?a27 ?l27 ?c27 ?k27, Mine.ownF_mk KX G ?a28 ?l28 ?c28 ?k28, Mine.ownF_mk KX G ?a29 ?l29 ?c29 ?k29, Mine.ownF_mk KX G ?a30 ?l30 ?c30 ?k30, Mine.ownF_mk KX G ?a31 ?l31 ?c31 ?k31, Mine.ownF_mk KX G ?a32 ?l32 ?c32 ?k32, Mine.ownF_mk KX G ?a33 ?l33 ?c33 ?k33, Mine.ownF_mk KX G ?a34 ?l34 ?c34 ?k34, Mine.ownF_mk KX G ?a35 ?l35 ?c35 ?k35, Mine.ownF_mk KX G ?a36 ?l36 ?c36 ?k36, Mine.ownF_mk KX G ?a37 ?l37 ?c37 ?k37, Mine.ownF_mk KX G ?a38 ?l38 ?c38 ?k38, Mine.ownF_mk KX G ?a39 ?l39 ?c39 ?k39, Mine.ownF_mk KX G ?a40 ?l40 ?c40 ?k40, Mine.ownF_mk KX G ?a41 ?l41 ?c41 ?k41, Mine.ownF_mk KX G ?a42 ?l42 ?c42 ?k42, Mine.ownF_mk KX G ?a43 ?l43 ?c43 ?k43, Mine.ownF_mk KX G ?a44 ?l44 ?c44 ?k44, Mine.ownF_mk KX G ?a45 ?l45 ?c45 ?k45, Mine.ownF_mk KX G ?a46 ?l46 ?c46 ?k46, Mine.ownF_mk KX G ?a47 ?l47 ?c47 ?k47, Mine.ownF_mk KX G ?a48 ?l48 ?c48 ?k48, Mine.ownF_mk KX G ?a49 ?l49 ?c49 ?k49, Mine.ownF_mk KX G ?a50 ?l50 ?c50 ?k50, Mine.ownF_mk KX G ?a51 ?l51 ?c51 ?k51⟩
      (case a0 => k_is); (case l0 => k_is); (case c0 => k_is); (case k0 => k_is)
      (case a1 => k_is); (case l1 => k_is); (case c1 => k_is); (case k1 => k_is)
      (case a2 => k_is); (case l2 => k_is); (case c2 => k_is); (case k2 => k_is)
      (case a3 => k_is); (case l3 => k_is); (case c3 => k_is); (case k3 => k_is)
      (case a4 => k_is); (case l4 => k_is); (case c4 => k_is); (case k4 => k_is)
      (case a5 => k_is); (case l5 => k_is); (case c5 => k_is); (case k5 => k_is)
      (case a6 => k_is); (case l6 => k_is); (case c6 => k_is); (case k6 => k_is)
      (case a7 => k_is); (case l7 => k_is); (case c7 => k_is); (case k7 => k_is)
      (case a8 => k_is); (case l8 => k_is); (case c8 => k_is); (case k8 => k_is)
      (case a9 => k_is); (case l9 => k_is); (case c9 => k_is); (case k9 => k_is)
      (case a10 => k_is); (case l10 => k_is); (case c10 => k_is); (case k10 => k_is)
      (case a11 => k_is); (case l11 => k_is); (case c11 => k_is); (case k11 => k_is)
      (case a12 => k_is); (case l12 => k_is); (case c12 => k_is); (case k12 => k_is)
      (case a13 => k_is); (case l13 => k_is); (case c13 => k_is); (case k13 => k_is)
      (case a14 => k_is); (case l14 => k_is); (case c14 => k_is); (case k14 => k_is)
      (case a15 => k_is); (case l15 => k_is); (case c15 => k_is); (case k15 => k_is)
      (case a16 => k_is); (case l16 => k_is); (case c16 => k_is); (case k16 => k_is)
      (case a17 => k_is); (case l17 => k_is); (case c17 => k_is); (case k17 => k_is)
      (case a18 => k_is); (case l18 => k_is); (case c18 => k_is); (case k18 => k_is)
      (case a19 => k_is); (case l19 => k_is); (case c19 => k_is); (case k19 => k_is)
      (case a20 => k_is); (case l20 => k_is); (case c20 => k_is); (case k20 => k_is)
      (case a21 => k_is); (case l21 => k_is); (case c21 => k_is); (case k21 => k_is)
      (case a22 => k_is); (case l22 => k_is); (case c22 => k_is); (case k22 => k_is)
      (case a23 => k_is); (case l23 => k_is); (case c23 => k_is); (case k23 => k_is)
      (case a24 => k_is); (case l24 => k_is); (case c24 => k_is); (case k24 => k_is)
      (case a25 => k_is); (case l25 => k_is); (case c25 => k_is); (case k25 => k_is)
      (case a26 => k_is); (case l26 => k_is); (case c26 => k_is); (case k26 => k_is)
      (case a27 => k_is); (case l27 => k_is); (case c27 => k_is); (case k27 => k_is)
      (case a28 => k_is); (case l28 => k_is); (case c28 => k_is); (case k28 => k_is)
      (case a29 => k_is); (case l29 => k_is); (case c29 => k_is); (case k29 => k_is)
      (case a30 => k_is); (case l30 => k_is); (case c30 => k_is); (case k30 => k_is)
      (case a31 => k_is); (case l31 => k_is); (case c31 => k_is); (case k31 => k_is)
      (case a32 => k_is); (case l32 => k_is); (case c32 => k_is); (case k32 => k_is)
      (case a33 => k_is); (case l33 => k_is); (case c33 => k_is); (case k33 => k_is)
      (case a34 => k_is); (case l34 => k_is); (case c34 => k_is); (case k34 => k_is)
      (case a35 => k_is); (case l35 => k_is); (case c35 => k_is); (case k35 => k_is)
      (case a36 => k_is); (case l36 => k_is); (case c36 => k_is); (case k36 => k_is)
      (case a37 => k_is); (case l37 => k_is); (case c37 => k_is); (case k37 => k_is)
      (case a38 => k_is); (case l38 => k_is); (case c38 => k_is); (case k38 => k_is)
      (case a39 => k_is); (case l39 => k_is); (case c39 => k_is); (case k39 => k_is)
      (case a40 => k_is); (case l40 => k_is); (case c40 => k_is); (case k40 => k_is)
      (case a41 => k_is); (case l41 => k_is); (case c41 => k_is); (case k41 => k_is)
      (case a42 => k_is); (case l42 => k_is); (case c42 => k_is); (case k42 => k_is)
      (case a43 => k_is); (case l43 => k_is); (case c43 => k_is); (case k43 => k_is)
      (case a44 => k_is); (case l44 => k_is); (case c44 => k_is); (case k44 => k_is)
      (case a45 => k_is); (case l45 => k_is); (case c45 => k_is); (case k45 => k_is)
      (case a46 => k_is); (case l46 => k_is); (case c46 => k_is); (case k46 => k_is)
      (case a47 => k_is); (case l47 => k_is); (case c47 => k_is); (case k47 => k_is)
      (case a48 => k_is); (case l48 => k_is); (case c48 => k_is); (case k48 => k_is)
      (case a49 => k_is); (case l49 => k_is); (case c49 => k_is); (case k49 => k_is)
      (case a50 => k_is); (case l50 => k_is); (case c50 => k_is); (case k50 => k_is)
      (case a51 => k_is); (case l51 => k_is); (case c51 => k_is); (case k51 => k_is)
    obtain ⟨fI, cRefused, cBadProgram, cBadOp, cBadParts, cUnequal, cBadPart, cTooGreat, cTooMany, cBadInput, cBadOrder, Er, fdI, FI, tI⟩ : ∃ (fI cRefused cBadProgram cBadOp cBadParts cUnequal cBadPart cTooGreat cTooMany cBadInput cBadOrder : Addr), Mine.Errs (L2.KOf KX) mg fI cRefused cBadProgram cBadOp cBadParts cUnequal cBadPart cTooGreat cTooMany cBadInput cBadOrder ∧ ∃ fdI : FuncData, L2.Fun (L2.KOf KX) "__init__" "Refused.__init__" Mine.initSt fI fdI ∧ PySem.W.typeIn (L2.KOf KX) (.ref fI) = some (.type "function") := by
      dsimp only [L2.KOf]
      refine' ⟨_, _, _, _, _, _, _, _, _, _, _, Mine.errs_mk (Mine.errC_mk KX G ?aC0 ?xL0 ?bm0 ?sa0 ?ga0 ?gg0 ?nb0 ?iC0 ?kC0 ?eC0 ?tC0 ?hC0) (Mine.errC_mk KX G ?aC1 ?xL1 ?bm1 ?sa1 ?ga1 ?gg1 ?nb1 ?iC1 ?kC1 ?eC1 ?tC1 ?hC1) (Mine.errC_mk KX G ?aC2 ?xL2 ?bm2 ?sa2 ?ga2 ?gg2 ?nb2 ?iC2 ?kC2 ?eC2 ?tC2 ?hC2) (Mine.errC_mk KX G ?aC3 ?xL3 ?bm3 ?sa3 ?ga3 ?gg3 ?nb3 ?iC3 ?kC3 ?eC3 ?tC3 ?hC3) (Mine.errC_mk KX G ?aC4 ?xL4 ?bm4 ?sa4 ?ga4 ?gg4 ?nb4 ?iC4 ?kC4 ?eC4 ?tC4 ?hC4) (Mine.errC_mk KX G ?aC5 ?xL5 ?bm5 ?sa5 ?ga5 ?gg5 ?nb5 ?iC5 ?kC5 ?eC5 ?tC5 ?hC5) (Mine.errC_mk KX G ?aC6 ?xL6 ?bm6 ?sa6 ?ga6 ?gg6 ?nb6 ?iC6 ?kC6 ?eC6 ?tC6 ?hC6) (Mine.errC_mk KX G ?aC7 ?xL7 ?bm7 ?sa7 ?ga7 ?gg7 ?nb7 ?iC7 ?kC7 ?eC7 ?tC7 ?hC7) (Mine.errC_mk KX G ?aC8 ?xL8 ?bm8 ?sa8 ?ga8 ?gg8 ?nb8 ?iC8 ?kC8 ?eC8 ?tC8 ?hC8) (Mine.errC_mk KX G ?aC9 ?xL9 ?bm9 ?sa9 ?ga9 ?gg9 ?nb9 ?iC9 ?kC9 ?eC9 ?tC9 ?hC9) ⟨?b0, ?i0, ?t0⟩ ⟨?b1, ?i1, ?t1⟩ ?s0 ?s1 ?s2 ?s3 ?s4, _, L2.fun_mk (st := Mine.initSt) ?lI ?cI ?kI, ?tI⟩
      (case aC0 => k_is); (case xL0 => k_is); (case bm0 => decide +kernel); (case sa0 => k_is); (case ga0 => k_is); (case gg0 => k_is); (case nb0 => k_is); (case iC0 => k_is); (case kC0 => k_is); (case eC0 => k_is); (case tC0 => k_is); (case hC0 => k_is)
      (case aC1 => k_is); (case xL1 => k_is); (case bm1 => decide +kernel); (case sa1 => k_is); (case ga1 => k_is); (case gg1 => k_is); (case nb1 => k_is); (case iC1 => k_is); (case kC1 => k_is); (case eC1 => k_is); (case tC1 => k_is); (case hC1 => k_is)
      (case aC2 => k_is); (case xL2 => k_is); (case bm2 => decide +kernel); (case sa2 => k_is); (case ga2 => k_is); (case gg2 => k_is); (case nb2 => k_is); (case iC2 => k_is); (case kC2 => k_is); (case eC2 => k_is); (case tC2 => k_is); (case hC2 => k_is)
      (case aC3 => k_is); (case xL3 => k_is); (case bm3 => decide +kernel); (case sa3 => k_is); (case ga3 => k_is); (case gg3 => k_is); (case nb3 => k_is); (case iC3 => k_is); (case kC3 => k_is); (case eC3 => k_is); (case tC3 => k_is); (case hC3 => k_is)
      (case aC4 => k_is); (case xL4 => k_is); (case bm4 => decide +kernel); (case sa4 => k_is); (case ga4 => k_is); (case gg4 => k_is); (case nb4 => k_is); (case iC4 => k_is); (case kC4 => k_is); (case eC4 => k_is); (case tC4 => k_is); (case hC4 => k_is)
      (case aC5 => k_is); (case xL5 => k_is); (case bm5 => decide +kernel); (case sa5 => k_is); (case ga5 => k_is); (case gg5 => k_is); (case nb5 => k_is); (case iC5 => k_is); (case kC5 => k_is); (case eC5 => k_is); (case tC5 => k_is); (case hC5 => k_is)
      (case aC6 => k_is); (case xL6 => k_is); (case bm6 => decide +kernel); (case sa6 => k_is); (case ga6 => k_is); (case gg6 => k_is); (case nb6 => k_is); (case iC6 => k_is); (case kC6 => k_is); (case eC6 => k_is); (case tC6 => k_is); (case hC6 => k_is)
      (case aC7 => k_is); (case xL7 => k_is); (case bm7 => decide +kernel); (case sa7 => k_is); (case ga7 => k_is); (case gg7 => k_is); (case nb7 => k_is); (case iC7 => k_is); (case kC7 => k_is); (case eC7 => k_is); (case tC7 => k_is); (case hC7 => k_is)
      (case aC8 => k_is); (case xL8 => k_is); (case bm8 => decide +kernel); (case sa8 => k_is); (case ga8 => k_is); (case gg8 => k_is); (case nb8 => k_is); (case iC8 => k_is); (case kC8 => k_is); (case eC8 => k_is); (case tC8 => k_is); (case hC8 => k_is)
      (case aC9 => k_is); (case xL9 => k_is); (case bm9 => decide +kernel); (case sa9 => k_is); (case ga9 => k_is); (case gg9 => k_is); (case nb9 => k_is); (case iC9 => k_is); (case kC9 => k_is); (case eC9 => k_is); (case tC9 => k_is); (case hC9 => k_is)
      (case b0 => k_is); (case i0 => k_is); (case t0 => k_is)
      (case b1 => k_is); (case i1 => k_is); (case t1 => k_is)
      (case s0 => first | k_is | rfl | decide +kernel); (case s1 => first | k_is | rfl | decide +kernel); (case s2 => first | k_is | rfl | decide +kernel); (case s3 => first | k_is | rfl | decide +kernel); (case s4 => first | k_is | rfl | decide +kernel)
      (case lI => k_is); (case cI => k_is); (case kI => k_is); (case tI => k_is)
    obtain ⟨aT, b0, b1, b2, b3, b4, tT, n0, n1, n2, n3, n4⟩ : ∃ (aT b0 b1 b2 b3 b4 : Addr), Mine.Tab w (L2.KOf KX) mg "TELLS" aT (Mine.tabG [("row", b0), ("in", b1), ("part", b2), ("rep", b3), ("hold", b4)]) ∧ mg "tells_row" = some (.ref b0) ∧ mg "tells_input" = some (.ref b1) ∧ mg "tells_stretch" = some (.ref b2) ∧ mg "tells_times" = some (.ref b3) ∧ mg "tells_room" = some (.ref b4) := by
      dsimp only [L2.KOf]
      refine' ⟨_, _, _, _, _, _, Mine.tab_mk KX G ?e ?l ?k ?lo ?L, PySem.W.mg_of KX G ?n0, PySem.W.mg_of KX G ?n1, PySem.W.mg_of KX G ?n2, PySem.W.mg_of KX G ?n3, PySem.W.mg_of KX G ?n4⟩
      (case e => k_is); (case l => k_is); (case k => k_keys); (case lo => decide); (case L => rfl)
      (case n0 => k_is); (case n1 => k_is); (case n2 => k_is); (case n3 => k_is); (case n4 => k_is)
    obtain ⟨aP, p0, p1, p2, p3, p4, p5, p6, p7, p8, p9, p10, p11, p12, p13, p14, p15, tP, hP⟩ : ∃ (aP p0 p1 p2 p3 p4 p5 p6 p7 p8 p9 p10 p11 p12 p13 p14 p15 : Addr), Mine.Tab w (L2.KOf KX) mg "PARTS" aP (Mine.tabG [("row", p0), ("in", p1), ("rev", p2), ("sort", p3), ("sum", p4), ("top", p5), ("add", p6), ("sub", p7), ("mul", p8), ("dot", p9), ("cat", p10), ("outer", p11), ("blend", p12), ("part", p13), ("rep", p14), ("hold", p15)]) ∧ Mine.Prs (L2.KOf KX) [("row", p0), ("in", p1), ("rev", p2), ("sort", p3), ("sum", p4), ("top", p5), ("add", p6), ("sub", p7), ("mul", p8), ("dot", p9), ("cat", p10), ("outer", p11), ("blend", p12), ("part", p13), ("rep", p14), ("hold", p15)] Mine.arts := by
      dsimp only [L2.KOf]
      refine' ⟨_, _, _, _, _, _, _, _, _, _, _, _, _, _, _, _, _, Mine.tab_mk KX G ?e ?l ?k ?lo ?L, (.cons ⟨rfl, Mine.pair_mk ?p0⟩ (.cons ⟨rfl, Mine.pair_mk ?p1⟩ (.cons ⟨rfl, Mine.pair_mk ?p2⟩ (.cons ⟨rfl, Mine.pair_mk ?p3⟩ (.cons ⟨rfl, Mine.pair_mk ?p4⟩ (.cons ⟨rfl, Mine.pair_mk ?p5⟩ (.cons ⟨rfl, Mine.pair_mk ?p6⟩ (.cons ⟨rfl, Mine.pair_mk ?p7⟩ (.cons ⟨rfl, Mine.pair_mk ?p8⟩ (.cons ⟨rfl, Mine.pair_mk ?p9⟩ (.cons ⟨rfl, Mine.pair_mk ?p10⟩ (.cons ⟨rfl, Mine.pair_mk ?p11⟩ (.cons ⟨rfl, Mine.pair_mk ?p12⟩ (.cons ⟨rfl, Mine.pair_mk ?p13⟩ (.cons ⟨rfl, Mine.pair_mk ?p14⟩ (.cons ⟨rfl, Mine.pair_mk ?p15⟩ .nil))))))))))))))))⟩
      (case e => k_is); (case l => k_is); (case k => k_keys); (case lo => decide); (case L => rfl)
      (case p0 => k_is); (case p1 => k_is); (case p2 => k_is); (case p3 => k_is); (case p4 => k_is); (case p5 => k_is); (case p6 => k_is); (case p7 => k_is); (case p8 => k_is); (case p9 => k_is); (case p10 => k_is); (case p11 => k_is); (case p12 => k_is); (case p13 => k_is); (case p14 => k_is); (case p15 => k_is)
    refine' Mine.fin_mk KX G hmg ?a ?l ?c ?k B BS BR C (Mine.parts_tab tP hP) tT n0 n1 n2 n3 n4 FI tI Er OP
    (case a => k_is); (case l => k_is); (case c => k_is); (case k => k_is)
