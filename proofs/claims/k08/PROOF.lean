import PyProof.Rows.All
import Wide.All
import OpenK.AllK
import Wide.FinOn
import HandS.ForMost
import HandS.Codes
import HandS.Flow
import HandS.Style
import HandS.StrMore
import HandS.IsInst
import HandS.TupAny
import HandS.EndBits
import HandS.Set
import HandS.SetFor
import HandS.Strs
import HandS.Exc
import HandS.ExcInit
import HandS.ExcField
import HandS.WordsExc
import HandS.ExcIs
import HandS.Small
import HandS.Star
import HandS.AnyAll
import HandS.WrittenGet
import HandS.SortKw
import KE.KMinBuiltin
import HandS.WideBits
import HandS.Wide
import HandS.Walk
import KE.KIsAll
import KE.KTryMore
import HandS.Conv
import HandS.TupMul
import HandS.Property
import HandS.NestedK
import KE.KDictDisplayH
import HandS.Dict
import KE.GoesEnum
import PySem.Challenge.RW_digitwise_k08_book_refusals
set_option Elab.async false
set_option linter.all false
set_option maxRecDepth 100000
set_option maxHeartbeats 4000000
namespace Dw
open PySem PySem.Spec PyProof.Rows L2 SX

theorem hu64 {A : Around} {k : Nat} (hr : Room k A) : A.units + 64 < cLine := hr.units
section
variable {X : Cx} {k j : Nat} {x : Str} {sp : Sp} {dvs : List V} {p pos : Pos}
theorem pe_c0 (c : C8.Cal X.prog X.w X.K X.mg X.base k x sp dvs) (hr : Room j X.A) (hk : k ≤ j) (hg : Gl X x)
    (hdb : (x == ("__debug__" : Str)) = false := by decide) :
    PE X (.Call (.Name x p) [] [] pos) (tCall sp dvs C8.E0 tNil) := by
  obtain ⟨f, fd, ps, ds, F, hm, kp, b, d⟩ := c.ex
  exact pe_call0 F (hr.mono hk) hg hm kp b d C8.pass0 hdb
end
theorem same_upd {H : Hp} {p : Addr} {o : HO} (h : H p = none) : Same H (upd H p o) := fun b x e => by
  rw [upd_ne (ne_of_none e h)]
  exact e
/-- all but what stands at p is as it was -/
def But (p : Addr) (H H' : Hp) : Prop := ∀ b o, b ≠ p → H b = some o → H' b = some o
theorem But.refl (p : Addr) (H : Hp) : But p H H := fun _ _ _ h => h
theorem But.trans {p : Addr} {H H1 H2 : Hp} (a : But p H H1) (b : But p H1 H2) : But p H H2 := fun c o n h => b c o n (a c o n h)
theorem But.of {p : Addr} {H H' : Hp} (a : Same H H') : But p H H' := fun b o _ h => a b o h
theorem But.upd {p : Addr} {H : Hp} {o : HO} : But p H (upd H p o) := fun b _ n h => by
  rw [upd_ne n]
  exact h
theorem But.list {p a : Addr} {H H' : Hp} {K : PySem.W.Frag} {xs : List V} (e : But p H H') (n : a ≠ p) (h : SqL K H a xs) : SqL K H' a xs := by
  rcases h with (h | ⟨o, h⟩) | h
  · exact .inl (.inl (e _ _ n h))
  · exact .inl (.inr ⟨o, e _ _ n h⟩)
  · exact .inr h
/-- the pool of drawn numbers at p, over the copied script at q -/
def Pool (H : Hp) (p q : Addr) (ns : List Int) : Prop := p ≠ q ∧ H q = some (.lst (ns.map V.int)) ∧ ∃ a k : Int, H p = some (.lst [.int a, .ref q, .int k]) ∧ 0 ≤ a ∧ -1 ≤ k
theorem Pool.same {H H' : Hp} {p q : Addr} {ns : List Int} (h : Pool H p q ns) (e : Same H H') : Pool H' p q ns := by
  obtain ⟨n, hq, a, k, hp, h0, h1⟩ := h
  exact ⟨n, e _ _ hq, a, k, e _ _ hp, h0, h1⟩

example : True := by trivial
end Dw
namespace Dw
open PySem PySem.Spec PyProof.Rows L2 SX
section
variable {CX : CXT} {P : Program} {w : World} {K : PySem.W.Frag} {mg : Str → Option Value} {base : Heap} {N : List Str} {qual : Str} {scope : Scope} {f : Addr} {cd : Value} {A : Around} {outer : List Env} {s : Shared} {H : Hp} {E : XK}
theorem cxOf_K : (cxOf CX P w K mg base N qual scope f cd A outer s H E).K = K := rfl
theorem cxOf_w : (cxOf CX P w K mg base N qual scope f cd A outer s H E).w = w := rfl
theorem cxOf_prog : (cxOf CX P w K mg base N qual scope f cd A outer s H E).prog = P := rfl
end
end Dw
namespace Dw
open PySem PySem.Spec PyProof.Rows L2 SX
theorem at_ints {ns : List Int} {k : Int} (h0 : 0 ≤ k) (h1 : k < (ns.length : Int)) : atI (ns.map V.int) k = some (.int (ns.getD k.toNat 0)) := by
  obtain ⟨n, rfl⟩ : ∃ n : Nat, k = (n : Int) := ⟨k.toNat, by omega⟩
  have h2 : n < ns.length := by omega
  refine atI_nat ?_
  rw [List.getElem?_map, Int.toNat_natCast, List.getD_eq_getElem?_getD, List.getElem?_eq_getElem h2]
  rfl
end Dw
namespace Dw
open PySem PySem.Spec PyProof.Rows L2 SX
/-- a text times an int -/
theorem op_mul_str {X : Cx} : OpR X (binaryOp .Mult) (fun x y H Q => ∃ (z : Str) (k : Int), x = .str z ∧ y = .int k ∧ MulOk z k ∧ Q (.str (Txt.mul z k)) H) := by
  intro pins s σ H x y v u Q I rx ry h
  obtain ⟨z, k, rfl, rfl, hz, q⟩ := h
  obtain ⟨t, rfl⟩ := rx
  obtain ⟨t', rfl⟩ := ry
  exact SB.mul hz (fun t' tk => ⟨.str (Txt.mul z k), H, I.tok _, ⟨_, rfl⟩, q⟩)
def rMulS : R2 := fun x y H Q => ∃ (z : Str) (k : Int), x = .str z ∧ y = .int k ∧ MulOk z k ∧ Q (.str (Txt.mul z k)) H
theorem op_mulS {X : Cx} : OpR X (binaryOp .Mult) rMulS := op_mul_str
/-! loops and comprehensions, folded -/
def ForJ (J : It) (g : TG) (tb : TS) (D : Ends) (σ : L2.St) (H : Hp) : Prop := ∃ W : Nat → Nat → L2.St → Hp → Prop, (∃ m, W 0 m σ H) ∧ ∀ i m σ H, W i m σ H →
  (J.stop i H ∧ D.nx σ H) ∨ (J.go i H ∧ ∃ N : L2.St → Hp → Prop, (∀ σ' H', N σ' H' → ∃ m', m' < m ∧ W (i + 1) m' σ' H') ∧ ∀ x H', J.yld i H x H' → g x σ H' fun σ2 H2 => tb { D with nx := N, ct := N, bk := D.nx } σ2 H2)
theorem tFor_eq (wi : TI) (g : TG) (tb : TS) (D : Ends) (σ : L2.St) (H : Hp) : tFor wi g tb D σ H = wi σ H fun J H1 => ForJ J g tb D σ H1 := rfl
def LcJ (J : It) (g : TG) (tt : TT) (te : TE) (vs : List Nat) (D : Addr) (σ : L2.St) (H1 : Hp) (Qd : Hp → Prop) : Prop := ∃ W : Nat → Nat → Hp → Prop, (∃ m, W 0 m (upd H1 D (.lst []))) ∧ ∀ i m H, W i m H →
  (J.stop i H ∧ Qd H) ∨ (J.go i H ∧ ∃ Nx : Hp → Prop, (∀ H', Nx H' → ∃ m', m' < m ∧ W (i + 1) m' H') ∧ ∀ x H', J.yld i H x H' → g x (wipe σ vs) H' fun σ2 H2 => wipe σ2 vs = wipe σ vs ∧ tt σ2 H2 fun b H3 =>
    if b = true then te σ2 H3 fun y H4 => ∃ acc, H4 D = some (.lst acc) ∧ acc.length < sizeLine ∧ Nx (upd H4 D (.lst (acc ++ [y]))) else Nx H3)
theorem tLc_eq (wi : TI) (g : TG) (tt : TT) (te : TE) (vs : List Nat) (σ : L2.St) (H : Hp) (Q : VK) : tLc wi g tt te vs σ H Q = wi σ H fun J H1 => ∀ D, H1 D = none → LcJ J g tt te vs D σ H1 fun H2 => Q (.ref D) H2 := rfl
/-! texts as lists of codes -/
def cs (s : String) : List Nat := (Str.ofString s).cps.toList
theorem ofStr_S (s : String) : Str.ofString s = S (cs s) := (S_tl _).symm
theorem one_S (c : Nat) : (⟨#[c]⟩ : Str) = S [c] := rfl
theorem S_iff (a b : List Nat) : (S a = S b) = (a = b) := propext ⟨S_inj, fun e => by rw [e]⟩
theorem S_cps (a : List Nat) : (S a).cps.toList = a := rfl
theorem len_S (a : List Nat) : (S a).length = a.length := S_len a
theorem at_mem {α : Type} {xs : List α} {i : Int} (h0 : 0 ≤ i) (h1 : i < (xs.length : Int)) : ∃ v, atI xs i = some v ∧ v ∈ xs := by
  obtain ⟨n, rfl⟩ : ∃ n : Nat, i = (n : Int) := ⟨i.toNat, by omega⟩
  have h2 : n < xs.length := by omega
  exact ⟨xs[n], atI_nat (List.getElem?_eq_getElem h2), List.getElem_mem h2⟩
def LOW : List Nat := cs "abcdefghijklmnopqrstuvwxyz"
def UPP : List Nat := cs "ABCDEFGHIJKLMNOPQRSTUVWXYZ"
def DIG : List Nat := cs "0123456789"
def RESW : List String := ["all", "def", "pow", "some", "told"]
def RES : List (List Nat) := RESW.map cs
def SGNW : List String := ["<=>", "=>", "->", "<=", ">=", "!=", "=", "<", ">", "+", "-", "*", "~", "&", "|", "(", ")", "[", "]", "{", "}", ",", ":", ";"]
def SGN : List (List Nat) := SGNW.map cs
def vS (l : List Nat) : V := .str (S l)
/-- a good name, a good word -/
structure GName (l : List Nat) : Prop where
  hd : ∃ c r, l = c :: r ∧ c ∈ LOW
  all : ∀ c ∈ l, c ∈ LOW ++ DIG
  le : l.length ≤ 12
  nr : l ∉ RES
structure GWord (l : List Nat) : Prop where
  hd : ∃ c r, l = c :: r ∧ c ∈ UPP
  all : ∀ c ∈ l, c ∈ UPP ++ DIG
  le : l.length ≤ 12
def NMS : List String := ["x", "y", "z", "alls", "v0", "v1", "po", "defx"]
instance (l : List Nat) : Decidable (∃ c r, l = c :: r ∧ c ∈ LOW) := match l with
  | [] => isFalse (by rintro ⟨_, _, h, _⟩; cases h)
  | c :: r => if h : c ∈ LOW then isTrue ⟨c, r, rfl, h⟩ else isFalse (by rintro ⟨_, _, e, h'⟩; cases e; exact h h')
theorem nms_ok : ∀ s ∈ NMS, (∃ c r, cs s = c :: r ∧ c ∈ LOW) ∧ (∀ c ∈ cs s, c ∈ LOW ++ DIG) ∧ (cs s).length ≤ 12 := by decide +kernel
theorem low_len : LOW.length = 26 := by decide +kernel
theorem lowdig_len : (LOW ++ DIG).length = 36 := by decide +kernel
theorem upp_len : UPP.length = 26 := by decide +kernel
theorem uppdig_len : (UPP ++ DIG).length = 36 := by decide +kernel
theorem res_len : ∀ l ∈ RES, l.length ≤ 4 := by decide +kernel
theorem res0 : ∀ l ∈ RES, l ++ cs "0" ∉ RES := by decide +kernel
/-- a drawn name is made good -/
theorem gname_of {l : List Nat} (hd : ∃ c r, l = c :: r ∧ c ∈ LOW) (all : ∀ c ∈ l, c ∈ LOW ++ DIG) (le : l.length ≤ 12) : (l ∈ RES → GName (l ++ cs "0")) ∧ (l ∉ RES → GName l) := by
  refine ⟨fun h => ⟨?_, ?_, ?_, res0 l h⟩, fun h => ⟨hd, all, le, h⟩⟩
  · obtain ⟨c, r, rfl, hc⟩ := hd
    exact ⟨c, r ++ cs "0", rfl, hc⟩
  · intro c hc
    rcases List.mem_append.mp hc with h1 | h1
    · exact all c h1
    · have : ∀ c ∈ cs "0", c ∈ LOW ++ DIG := by decide +kernel
      exact this c h1
  · rw [List.length_append]
    have := res_len l h
    have : (cs "0").length = 1 := by decide +kernel
    omega
end Dw
namespace Dw
open PySem PySem.Spec PyProof.Rows L2 SX
theorem eqV_S (a b : List Nat) : eqV (.str (S a)) (.str (S b)) = decide (a = b) := by
  show (S a == S b) = _
  exact S_beq_eq
theorem inV_S (l : List Nat) : ∀ L : List (List Nat), inV (.str (S l)) (L.map vS) = decide (l ∈ L)
  | [] => by simp [inV]
  | a :: L => by
    have ih := inV_S l L
    unfold inV at ih ⊢
    rw [List.map_cons, List.any_cons, ih]
    show (eqV (.str (S a)) (.str (S l)) || _) = _
    rw [eqV_S]
    by_cases h : a = l
    · subst h; simp
    · have h' : ¬ l = a := fun e => h e.symm
      simp [h, h']
theorem flat_S : ∀ L : List (List Nat), (L.map vS).all flatV = true
  | [] => rfl
  | a :: L => by
    rw [List.map_cons, List.all_cons, flat_S L]
    rfl
theorem small {n : Nat} (h : n ≤ 10000) : n ≤ sizeLine := Nat.le_trans h (by decide)
theorem smallt {n : Nat} (h : n ≤ 10000) : n < sizeLine := Nat.lt_of_le_of_lt h (by decide)
end Dw
namespace Dw
open PySem PySem.Spec PyProof.Rows L2 SX
def SPS : List String := ["", " ", "\n", "  \n ", " ", ""]
theorem sps_ok : ∀ s ∈ SPS, (∀ c ∈ cs s, c = 32 ∨ c = 10) ∧ (cs s).length ≤ 4 := by decide +kernel
def pfx (s t : List Nat) : Bool := t.take s.length == s
def isAN (c : Nat) : Bool := Unicode.isAlnum c
/-- the two pieces need a space between them -/
def joins (a b : List Nat) : Bool := (isAN (a.getLast?.getD 0) && isAN (b.head?.getD 0)) || SGN.any fun s => decide (a.length < s.length) && pfx a s && pfx s (a ++ b)
end Dw
namespace Dw
open PySem PySem.Spec PyProof.Rows L2 SX
theorem pfx_iff {s t : List Nat} : pfx s t = true ↔ ∃ r, t = s ++ r := by
  unfold pfx
  rw [beq_iff_eq]
  constructor
  · intro h
    exact ⟨t.drop s.length, by have := List.take_append_drop s.length t; rw [h] at this; exact this.symm⟩
  · rintro ⟨r, rfl⟩
    simp
theorem pfx_le {s t : List Nat} (h : pfx s t = true) : s.length ≤ t.length := by
  obtain ⟨r, rfl⟩ := pfx_iff.mp h
  rw [List.length_append]; omega
theorem subAt_S (a b : List Nat) (i : Nat) : Builtin.Str.subAt (S a) (S b) i = pfx b (a.drop i) := by
  rw [StrLaws.subAt_eq]
  show ((a.drop i).take (S b).length == b) = _
  rw [S_len]
  rfl
theorem sw_S (a b : List Nat) : Txt.startswith (S a) (S b) = pfx b a := by
  unfold Txt.startswith
  rw [subAt_S, S_len, S_len, List.drop_zero]
  cases h : pfx b a
  · simp
  · have := pfx_le h
    simp [this]
theorem sw3_S (a b : List Nat) (i : Nat) (hi : i ≤ a.length) : Txt.startswith3 (S a) (S b) (i : Int) = pfx b (a.drop i) := by
  unfold Txt.startswith3
  have e : fromIndex (S a).length (i : Int) = i := by
    unfold fromIndex
    rw [if_neg (by omega)]
    omega
  rw [e, subAt_S, S_len, S_len]
  cases h : pfx b (a.drop i)
  · simp
  · have := pfx_le h
    rw [List.length_drop] at this
    have h2 : i + b.length ≤ a.length := by omega
    simp [h2]
theorem an_S (c : Nat) : Txt.isalnum (S [c]) = isAN c := by
  unfold Txt.isalnum isAN
  show (decide ((S [c]).length > 0) && (#[c] : Array Nat).all Unicode.isAlnum) = _
  simp [Str.length]
end Dw
namespace Dw
theorem sgn_len : ∀ s ∈ SGN, s.length ≤ 3 := by decide +kernel
end Dw
namespace Dw
open PySem PySem.Spec PyProof.Rows L2 SX
abbrev TRow := List Nat × List Nat
def flat (rows : List TRow) : List Nat := rows.flatMap fun x => x.1 ++ x.2
def places (n : Nat) : List TRow → List V
  | [] => []
  | x :: r => .int (n : Nat) :: places (n + x.1.length + x.2.length) r
theorem flat_snoc (rows : List TRow) (x : TRow) : flat (rows ++ [x]) = flat rows ++ x.1 ++ x.2 := by
  simp [flat]
theorem flat_cons (rows : List TRow) (x : TRow) : flat (x :: rows) = x.1 ++ (x.2 ++ flat rows) := by
  simp [flat]
theorem places_snoc : ∀ (n : Nat) (rows : List TRow) (x : TRow), places n (rows ++ [x]) = places n rows ++ [.int ((n + (flat rows).length : Nat) : Int)]
  | n, [], x => by simp [places, flat]
  | n, y :: r, x => by
    show V.int _ :: places (n + y.1.length + y.2.length) (r ++ [x]) = _
    rw [places_snoc]
    show _ = V.int _ :: (places (n + y.1.length + y.2.length) r ++ _)
    rw [flat_cons, List.length_append, List.length_append]
    rw [show n + y.1.length + y.2.length + (flat r).length = n + (y.1.length + (y.2.length + (flat r).length)) by omega]
theorem places_len : ∀ (n : Nat) (rows : List TRow), (places n rows).length = rows.length
  | _, [] => rfl
  | n, y :: r => by
    show (places _ r).length + 1 = r.length + 1
    rw [places_len]
def Blank (l : List Nat) : Prop := (∀ c ∈ l, c = 32 ∨ c = 10) ∧ l.length ≤ 4
/-- where two parts join, a space stands between them -/
def Sepd (rows : List TRow) : Prop := ∀ (k : Nat) (x y : TRow), rows[k]? = some x → rows[k + 1]? = some y → joins x.1 y.1 = true → x.2 ≠ []
theorem flat_len : ∀ (rows : List TRow), (∀ x ∈ rows, x.1.length ≤ 100 ∧ x.2.length ≤ 4) → (flat rows).length ≤ 104 * rows.length
  | [], _ => by simp [flat]
  | x :: r, h => by
    have ih := flat_len r fun y hy => h y (List.mem_cons_of_mem _ hy)
    have h1 := h x List.mem_cons_self
    rw [flat_cons, List.length_append, List.length_append, List.length_cons]
    omega
theorem snoc_of {l : List Nat} (h : l ≠ []) : ∃ (a' : List Nat) (x : Nat), l = a' ++ [x] := ⟨l.dropLast, l.getLast h, (List.dropLast_concat_getLast h).symm⟩
theorem cons_of {l : List Nat} (h : l ≠ []) : ∃ (y : Nat) (b' : List Nat), l = y :: b' := by
  cases l with
  | nil => exact absurd rfl h
  | cons y r => exact ⟨y, r, rfl⟩
theorem at_map {α : Type} {f : α → V} {L : List α} {i : Nat} {a : α} (h : L[i]? = some a) : atI (L.map f) (i : Int) = some (f a) := atI_nat (by rw [List.getElem?_map, h]; rfl)
end Dw
namespace Dw
open PySem PySem.Spec PyProof.Rows L2 SX
theorem Pool.ne {H : Hp} {p q t : Addr} {ns : List Int} (h : Pool H p q ns) (ht : H t = none) : t ≠ p := by
  obtain ⟨_, _, _, _, hp, _⟩ := h
  exact (ne_of_none hp ht).symm
theorem But.free {H H1 : Hp} {p q t : Addr} {ns : List Int} (hB : But p H H1) (hP : Pool H1 p q ns) (ht : H1 t = none) : H t = none := by
  cases e : H t with
  | none => rfl
  | some o =>
    have := hB t o (hP.ne ht) e
    rw [ht] at this
    cases this
end Dw
namespace Dw
open PySem PySem.Spec PyProof.Rows L2 SX
theorem tyL {K : PySem.W.Frag} {H : Hp} {a : Addr} {xs : List V} (h : H a = some (.lst xs)) : tyV K "list" (.ref a) H := .inl ⟨rfl, _, SqL.of h⟩
theorem tyV_str {K : PySem.W.Frag} {H : Hp} {z : Str} : tyV K "str" (.str z) H = True := propext ⟨fun _ => trivial, fun _ => rfl⟩
theorem But.new {p t : Addr} {H H1 : Hp} {o : HO} (hB : But p H H1) (ht : H t = none) : But p H (L2.upd H1 t o) := fun b u n h => by
  rw [upd_ne (ne_of_none h ht)]
  exact hB b u n h
theorem Pool.set {p q t : Addr} {H : Hp} {ns : List Int} {o : HO} (h : Pool H p q ns) (h1 : t ≠ p) (h2 : t ≠ q) : Pool (L2.upd H t o) p q ns := by
  obtain ⟨n, hq, a, k, hp, h0, hk⟩ := h
  exact ⟨n, by rw [upd_ne h2.symm]; exact hq, a, k, by rw [upd_ne h1.symm]; exact hp, h0, hk⟩
theorem Pool.neq {H : Hp} {p q t : Addr} {ns : List Int} (h : Pool H p q ns) (ht : H t = none) : t ≠ q := by
  obtain ⟨_, hq, _⟩ := h
  exact (ne_of_none hq ht).symm
end Dw
namespace Dw
open PySem PySem.Spec PyProof.Rows L2 SX
def num (n : Nat) : List Nat := cs (toString (n : Int))
/-- a piece of a text, the kind and the value of its token -/
inductive Piece : List Nat → List Nat → V → Prop
  | res {l : List Nat} (h : l ∈ RES) : Piece l (cs "reserved") (.str (S l))
  | name {l : List Nat} (h : GName l) : Piece l (cs "name") (.str (S l))
  | word {l : List Nat} (h : GWord l) : Piece l (cs "word") (.str (S l))
  | num (n : Nat) (h : n < 256) : Piece (num n) (cs "number") (.int (n : Int))
  | sign {l : List Nat} (h : l ∈ SGN) : Piece l (cs "sign") (.str (S l))
end Dw
namespace Dw
open PySem PySem.Spec PyProof.Rows L2 SX
theorem But.upd2 {p t : Addr} {H H1 : Hp} {o : HO} (hB : But p H H1) (ht : H1 t = none) : But p H (L2.upd H1 t o) := hB.trans (But.of (same_upd ht))
end Dw
namespace Dw
open PySem PySem.Spec PyProof.Rows L2 SX
/-! loops by a word, what follows a turn left open -/
theorem while_up {c : TT} {tb : TS} {D : Ends} {σ : L2.St} {H : Hp} (W : Nat → L2.St → Hp → Prop) (h0 : ∃ m, W m σ H)
    (hs : ∀ m σ H (N : L2.St → Hp → Prop), W m σ H → (∀ m' σ' H', m' < m → W m' σ' H' → N σ' H') → c σ H fun b H1 => if b = true then tb { D with nx := N, ct := N, bk := D.nx } σ H1 else D.nx σ H1)
    (mono : ∀ σ H Q Q', (∀ b H1, Q b H1 → Q' b H1) → c σ H Q → c σ H Q') : tWhile c tb D σ H := by
  refine ⟨W, h0, fun m σ H hw => ?_⟩
  refine mono σ H _ _ (fun b H1 q => ?_) (hs m σ H (fun σ' H' => ∃ m', m' < m ∧ W m' σ' H') hw (fun m' σ' H' h1 h2 => ⟨m', h1, h2⟩))
  cases b with
  | true => exact ⟨_, fun σ' H' h => h, q⟩
  | false => exact q
theorem for_listN {K : PySem.W.Frag} {a : Addr} {xs : List V} {g : TG} {tb : TS} {D : Ends} {σ : L2.St} {H : Hp} (Pv : Nat → L2.St → Hp → Prop) (h0 : Pv 0 σ H) (hl : ∀ i σ H, i ≤ xs.length → Pv i σ H → SqL K H a xs)
    (hs : ∀ i x σ H (N : L2.St → Hp → Prop), xs[i]? = some x → Pv i σ H → (∀ σ' H', Pv (i + 1) σ' H' → N σ' H') → g x σ H fun σ2 H2 => tb { D with nx := N, ct := N, bk := D.nx } σ2 H2) (hd : ∀ σ H, Pv xs.length σ H → D.nx σ H) :
    ForJ (Itl K a) g tb D σ H := for_list Pv h0 hl (fun i x σ H hx hp => hs i x σ H (Pv (i + 1)) hx hp (fun _ _ h => h)) hd
theorem for_tupN {K : PySem.W.Frag} {a : Addr} {xs : List V} {g : TG} {tb : TS} {D : Ends} {σ : L2.St} {H : Hp} (Pv : Nat → L2.St → Hp → Prop) (h0 : Pv 0 σ H) (hl : ∀ i σ H, i ≤ xs.length → Pv i σ H → SqT K H a xs)
    (hs : ∀ i x σ H (N : L2.St → Hp → Prop), xs[i]? = some x → Pv i σ H → (∀ σ' H', Pv (i + 1) σ' H' → N σ' H') → g x σ H fun σ2 H2 => tb { D with nx := N, ct := N, bk := D.nx } σ2 H2) (hd : ∀ σ H, Pv xs.length σ H → D.nx σ H) :
    ForJ (Itt K a) g tb D σ H := for_tup Pv h0 hl (fun i x σ H hx hp => hs i x σ H (Pv (i + 1)) hx hp (fun _ _ h => h)) hd
theorem for_rangeN {lo : Int} {n : Nat} {g : TG} {tb : TS} {D : Ends} {σ : L2.St} {H : Hp} (Pv : Nat → L2.St → Hp → Prop) (h0 : Pv 0 σ H)
    (hs : ∀ i σ H (N : L2.St → Hp → Prop), i < n → Pv i σ H → (∀ σ' H', Pv (i + 1) σ' H' → N σ' H') → g (.int (lo + i)) σ H fun σ2 H2 => tb { D with nx := N, ct := N, bk := D.nx } σ2 H2) (hd : ∀ σ H, Pv n σ H → D.nx σ H) :
    ForJ (Itr lo n) g tb D σ H := for_range Pv h0 (fun i σ H hx hp => hs i σ H (Pv (i + 1)) hx hp (fun _ _ h => h)) hd
theorem lc_listN {K : PySem.W.Frag} {a : Addr} {xs : List V} {g : TG} {tt : TT} {te : TE} {vs : List Nat} {σ : L2.St} {H1 : Hp} {D : Addr} {Qd : Hp → Prop} (Pv : Nat → Hp → Prop) (h0 : Pv 0 (upd H1 D (.lst []))) (hl : ∀ i H, i ≤ xs.length → Pv i H → SqL K H a xs)
    (hs : ∀ i x H (N : Hp → Prop), xs[i]? = some x → Pv i H → (∀ H', Pv (i + 1) H' → N H') → g x (wipe σ vs) H fun σ2 H2 => wipe σ2 vs = wipe σ vs ∧ tt σ2 H2 fun b H3 =>
      if b = true then te σ2 H3 fun y H4 => ∃ acc, H4 D = some (.lst acc) ∧ acc.length < sizeLine ∧ N (upd H4 D (.lst (acc ++ [y]))) else N H3) (hd : ∀ H, Pv xs.length H → Qd H) :
    LcJ (Itl K a) g tt te vs D σ H1 Qd := lc_list Pv h0 hl (fun i x H hx hp => hs i x H (Pv (i + 1)) hx hp (fun _ h => h)) hd
theorem lc_tupN {K : PySem.W.Frag} {a : Addr} {xs : List V} {g : TG} {tt : TT} {te : TE} {vs : List Nat} {σ : L2.St} {H1 : Hp} {D : Addr} {Qd : Hp → Prop} (Pv : Nat → Hp → Prop) (h0 : Pv 0 (upd H1 D (.lst []))) (hl : ∀ i H, i ≤ xs.length → Pv i H → SqT K H a xs)
    (hs : ∀ i x H (N : Hp → Prop), xs[i]? = some x → Pv i H → (∀ H', Pv (i + 1) H' → N H') → g x (wipe σ vs) H fun σ2 H2 => wipe σ2 vs = wipe σ vs ∧ tt σ2 H2 fun b H3 =>
      if b = true then te σ2 H3 fun y H4 => ∃ acc, H4 D = some (.lst acc) ∧ acc.length < sizeLine ∧ N (upd H4 D (.lst (acc ++ [y]))) else N H3) (hd : ∀ H, Pv xs.length H → Qd H) :
    LcJ (Itt K a) g tt te vs D σ H1 Qd := lc_tup Pv h0 hl (fun i x H hx hp => hs i x H (Pv (i + 1)) hx hp (fun _ h => h)) hd
theorem lc_rangeN {lo : Int} {n : Nat} {g : TG} {tt : TT} {te : TE} {vs : List Nat} {σ : L2.St} {H1 : Hp} {D : Addr} {Qd : Hp → Prop} (Pv : Nat → Hp → Prop) (h0 : Pv 0 (upd H1 D (.lst [])))
    (hs : ∀ i H (N : Hp → Prop), i < n → Pv i H → (∀ H', Pv (i + 1) H' → N H') → g (.int (lo + i)) (wipe σ vs) H fun σ2 H2 => wipe σ2 vs = wipe σ vs ∧ tt σ2 H2 fun b H3 =>
      if b = true then te σ2 H3 fun y H4 => ∃ acc, H4 D = some (.lst acc) ∧ acc.length < sizeLine ∧ N (upd H4 D (.lst (acc ++ [y]))) else N H3) (hd : ∀ H, Pv n H → Qd H) :
    LcJ (Itr lo n) g tt te vs D σ H1 Qd := lc_range Pv h0 (fun i H hx hp => hs i H (Pv (i + 1)) hx hp (fun _ h => h)) hd
theorem cut_by {t u : TS} {D : Ends} {σ : L2.St} {H : Hp} (M : L2.St → Hp → Prop) (h1 : ∀ N : L2.St → Hp → Prop, (∀ σ' H', M σ' H' → N σ' H') → t { D with nx := N } σ H) (h2 : ∀ σ' H', M σ' H' → u D σ' H') : C8.tCut t u D σ H :=
  ⟨M, h1 M (fun _ _ h => h), h2⟩
/-! signs at the head of what is left -/
def hdIn (ch : List Nat) : List Nat → Bool
  | [] => false
  | c :: _ => decide (c ∈ ch)
theorem run_split (ch : List Nat) : ∀ l : List Nat, ∃ a b, l = a ++ b ∧ (∀ c ∈ a, c ∈ ch) ∧ hdIn ch b = false
  | [] => ⟨[], [], rfl, (fun _ h => nomatch h), rfl⟩
  | c :: r => by
    by_cases h : c ∈ ch
    · obtain ⟨a, b, rfl, h1, h2⟩ := run_split ch r
      refine ⟨c :: a, b, rfl, fun d hd => ?_, h2⟩
      rcases List.mem_cons.mp hd with e | e
      · rw [e]; exact h
      · exact h1 d e
    · exact ⟨[], c :: r, rfl, (fun _ h => nomatch h), decide_eq_false h⟩
theorem at_app {pre : List Nat} {c : Nat} {r : List Nat} : atI (pre ++ c :: r) ((pre.length : Nat) : Int) = some c := by
  refine atI_nat ?_
  rw [List.getElem?_append_right (Nat.le_refl _), Nat.sub_self]
  rfl
theorem cut_mid (pre l rest : List Nat) : Txt.slice (S (pre ++ (l ++ rest))) (some ((pre.length : Nat) : Int)) (some ((pre.length + l.length : Nat) : Int)) = S l := by
  rw [← C8.cutS_slice]
  unfold cutS
  rw [HT.sIx_nat, HT.sIx_nat, len_S, S_cps]
  have e1 : min pre.length (pre ++ (l ++ rest)).length = pre.length := by
    rw [List.length_append]; omega
  have e2 : min (pre.length + l.length) (pre ++ (l ++ rest)).length = pre.length + l.length := by
    rw [List.length_append, List.length_append]; omega
  rw [e1, e2, List.drop_left, Nat.add_sub_cancel_left, List.take_left]
end Dw
namespace Dw
open PySem PySem.Spec PyProof.Rows L2 SX
def NxW (W : Nat → L2.St → Hp → Prop) (m : Nat) (tb : TS) (D : Ends) (σ : L2.St) (H1 : Hp) : Prop := ∃ N : L2.St → Hp → Prop, (∀ σ' H', N σ' H' → ∃ m', m' < m ∧ W m' σ' H') ∧ tb { D with nx := N, ct := N, bk := D.nx } σ H1
theorem nxw_of {W : Nat → L2.St → Hp → Prop} {m : Nat} {tb : TS} {D : Ends} {σ : L2.St} {H1 : Hp} (h : ∀ N : L2.St → Hp → Prop, (∀ m' σ' H', m' < m → W m' σ' H' → N σ' H') → tb { D with nx := N, ct := N, bk := D.nx } σ H1) : NxW W m tb D σ H1 :=
  ⟨_, fun _ _ h => h, h (fun σ' H' => ∃ m', m' < m ∧ W m' σ' H') fun m' σ' H' h1 h2 => ⟨m', h1, h2⟩⟩
theorem while_W {c : TT} {tb : TS} {D : Ends} {σ : L2.St} {H : Hp} (W : Nat → L2.St → Hp → Prop) (h0 : ∃ m, W m σ H)
    (hs : ∀ m σ H, W m σ H → c σ H fun b H1 => if b = true then NxW W m tb D σ H1 else D.nx σ H1) : tWhile c tb D σ H := ⟨W, h0, hs⟩
end Dw
namespace Dw
open PySem PySem.Spec PyProof.Rows L2 SX
/-- a run of these signs and figures, a sign first, of at most 12 -/
def run (ch l : List Nat) : Bool := decide (1 ≤ l.length) && decide (l.length ≤ 12) && hdIn ch l && l.all fun c => decide (c ∈ ch ++ DIG)
/-- a value that is no text -/
inductive NoStr (H : Hp) : V → Prop
  | non : NoStr H .non
  | int (i : Int) : NoStr H (.int i)
  | bl (b : Bool) : NoStr H (.bl b)
  | tup {a : Addr} {xs : List V} (h : H a = some (.tup xs)) : NoStr H (.ref a)
theorem kit_str {K : PySem.W.Frag} : PySem.W.kitOne K (.type "str") (.type "str") = some true := kit_ty (by decide +kernel)
theorem NoStr.ty {K : PySem.W.Frag} {H : Hp} {v : V} (h : NoStr H v) : ∃ t, TyX K H v t ∧ PySem.W.kitOne K t (.type "str") = some false := by
  cases h with
  | non => exact ⟨_, .base .non, kit_ty (by decide +kernel)⟩
  | int i => exact ⟨_, .base (.int i), kit_ty (by decide +kernel)⟩
  | bl b => exact ⟨_, .base (.bl b), kit_ty (by decide +kernel)⟩
  | tup h => exact ⟨_, .base (.tup h), kit_ty (by decide +kernel)⟩
theorem gname_iff {l : List Nat} : (run LOW l && !decide (l ∈ RES)) = true ↔ GName l := by
  unfold run
  constructor
  · intro h
    simp only [Bool.and_eq_true, decide_eq_true_eq, List.all_eq_true, Bool.not_eq_true', decide_eq_false_iff_not] at h
    obtain ⟨⟨⟨⟨h1, h2⟩, h3⟩, h4⟩, h5⟩ := h
    refine ⟨?_, h4, h2, h5⟩
    cases l with
    | nil => exact absurd h1 (by decide)
    | cons c r => exact ⟨c, r, rfl, of_decide_eq_true h3⟩
  · rintro ⟨⟨c, r, rfl, hc⟩, h2, h3, h4⟩
    simp only [Bool.and_eq_true, decide_eq_true_eq, List.all_eq_true, Bool.not_eq_true', decide_eq_false_iff_not]
    exact ⟨⟨⟨⟨by simp, h3⟩, decide_eq_true hc⟩, h2⟩, h4⟩
end Dw
namespace Dw
open PySem PySem.Spec PyProof.Rows L2 SX
structure After (l rest : List Nat) : Prop where
  an : ∀ x, l.getLast? = some x → isAN x = true → ∀ y r, rest = y :: r → isAN y = false
  sg : ∀ s ∈ SGN, l.length < s.length → pfx l s = true → pfx s (l ++ rest) = false
theorem an_ld : ∀ c ∈ LOW ++ DIG, isAN c = true := by decide +kernel
theorem an_ud : ∀ c ∈ UPP ++ DIG, isAN c = true := by decide +kernel
theorem After.hd {l rest ch : List Nat} (h : After l rest) (hne : l ≠ []) (al : ∀ c ∈ l, isAN c = true) (hch : ∀ c ∈ ch, isAN c = true) : hdIn ch rest = false := by
  cases rest with
  | nil => rfl
  | cons y r =>
    have h1 := h.an _ (List.getLast?_eq_some_getLast hne) (al _ (List.getLast_mem hne)) y r rfl
    refine decide_eq_false fun hy => ?_
    rw [hch y hy] at h1
    cases h1
theorem res_ok : ∀ l ∈ RES, (∃ c r, l = c :: r ∧ c ∈ LOW) ∧ (∀ c ∈ l, c ∈ LOW ++ DIG) ∧ l.length ≤ 12 := by decide +kernel
theorem sgn_ok : ∀ l ∈ SGN, l ≠ [] ∧ hdIn LOW l = false ∧ hdIn UPP l = false ∧ hdIn DIG l = false ∧ hdIn [32, 10] l = false := by decide +kernel
theorem low_ok : ∀ c ∈ LOW, c ≠ 32 ∧ c ≠ 10 := by decide +kernel
theorem upp_ok : ∀ c ∈ UPP, c ∉ LOW ∧ c ≠ 32 ∧ c ≠ 10 := by decide +kernel
theorem dig_ok : ∀ c ∈ DIG, c ∉ LOW ∧ c ∉ UPP ∧ c ≠ 32 ∧ c ≠ 10 := by decide +kernel
theorem num_ok : ∀ n : Nat, n < 256 → num n ≠ [] ∧ (∀ c ∈ num n, c ∈ DIG) ∧ (num n).length ≤ 3 ∧ ((num n).head? = some 48 → (num n).length = 1) ∧ (num n).all (fun c => decide (48 ≤ c) && decide (c ≤ 57)) = true ∧ NumText.digitsVal (num n) = n := by decide +kernel
/-- a sign stands ahead of the signs that it begins with -/
theorem sgn_first : ∀ (i j : Fin 24), i < j → pfx (SGN.getD i []) (SGN.getD j []) = false := by decide +kernel
theorem num_int {n : Nat} (h : n < 256) : intText? (S (num n)) = some (n : Int) := by
  obtain ⟨h1, h2, h3, h4, h5, h6⟩ := num_ok n h
  rw [int_S h5 h1 (by omega), h6]
end Dw
namespace Dw
open PySem PySem.Spec PyProof.Rows L2 SX
theorem sgn_len24 : SGN.length = 24 := by decide +kernel
theorem sgn_before {i j : Nat} {s l : List Nat} (h : i < j) (hi : SGN[i]? = some s) (hj : SGN[j]? = some l) : pfx s l = false := by
  have h1 : j < 24 := by
    have := (List.getElem?_eq_some_iff.mp hj).1
    rw [sgn_len24] at this
    exact this
  have := sgn_first ⟨i, by omega⟩ ⟨j, h1⟩ h
  rw [List.getD_eq_getElem?_getD, List.getD_eq_getElem?_getD] at this
  rw [show SGN[(⟨i, by omega⟩ : Fin 24).val]? = some s from hi, show SGN[(⟨j, h1⟩ : Fin 24).val]? = some l from hj] at this
  exact this
theorem pfx_short {s l r : List Nat} (h : pfx s (l ++ r) = true) (hl : s.length ≤ l.length) : pfx s l = true := by
  unfold pfx at h ⊢
  rw [List.take_append_of_le_length hl] at h
  exact h
theorem pfx_two {s l r : List Nat} (h : pfx s (l ++ r) = true) (hl : l.length ≤ s.length) : pfx l s = true := by
  unfold pfx at h ⊢
  rw [beq_iff_eq] at h ⊢
  rw [← h, List.take_take, Nat.min_eq_left hl, List.take_left]
end Dw
namespace Dw
open PySem PySem.Spec PyProof.Rows L2 SX
/-- a piece, the space behind it, its token's kind and value -/
structure Itm where
  l : List Nat
  sp : List Nat
  k : List Nat
  v : V
def irow (x : Itm) : TRow := (x.l, x.sp)
abbrev iflat (r : List Itm) : List Nat := flat (r.map irow)
def Goods : List Itm → Prop
  | [] => True
  | x :: r => Piece x.l x.k x.v ∧ Blank x.sp ∧ After x.l (x.sp ++ iflat r) ∧ Goods r
theorem iflat_cons (x : Itm) (r : List Itm) : iflat (x :: r) = x.l ++ (x.sp ++ iflat r) := flat_cons _ _
/-- the tokens of these items stand at these places -/
def Toks (H : Hp) : Nat → List Itm → List Addr → Prop
  | _, [], [] => True
  | n, x :: r, a :: as => H a = some (.tup [.str (S x.k), x.v, .int (n : Nat)]) ∧ Toks H (n + x.l.length + x.sp.length) r as
  | _, _, _ => False
theorem Toks.same {H H' : Hp} (e : Same H H') : ∀ {n : Nat} {r : List Itm} {as : List Addr}, Toks H n r as → Toks H' n r as
  | _, [], [], _ => trivial
  | _, x :: r, a :: as, h => ⟨e _ _ h.1, Toks.same e h.2⟩
  | _, [], _ :: _, h => h.elim
  | _, _ :: _, [], h => h.elim
theorem Toks.but {p : Addr} {H H' : Hp} (e : But p H H') (hp : ∀ xs, H p ≠ some (.tup xs)) : ∀ {n : Nat} {r : List Itm} {as : List Addr}, Toks H n r as → Toks H' n r as
  | _, [], [], _ => trivial
  | _, x :: r, a :: as, h => ⟨e _ _ (fun q => hp _ (q ▸ h.1)) h.1, Toks.but e hp h.2⟩
  | _, [], _ :: _, h => h.elim
  | _, _ :: _, [], h => h.elim
theorem Toks.len {H : Hp} : ∀ {n : Nat} {r : List Itm} {as : List Addr}, Toks H n r as → as.length = r.length
  | _, [], [], _ => rfl
  | _, x :: r, a :: as, h => congrArg (· + 1) (Toks.len h.2)
  | _, [], _ :: _, h => h.elim
  | _, _ :: _, [], h => h.elim
theorem Toks.snoc {H : Hp} {x : Itm} {a : Addr} : ∀ {n : Nat} {r : List Itm} {as : List Addr}, Toks H n r as → H a = some (.tup [.str (S x.k), x.v, .int ((n + (iflat r).length : Nat) : Int)]) → Toks H n (r ++ [x]) (as ++ [a])
  | _, [], [], _, h => ⟨h, trivial⟩
  | n, y :: r, b :: as, h, h2 => ⟨h.1, Toks.snoc h.2 (by
      rw [iflat_cons, List.length_append, List.length_append] at h2
      rw [show n + y.l.length + y.sp.length + (iflat r).length = n + (y.l.length + (y.sp.length + (iflat r).length)) by omega]
      exact h2)⟩
  | _, [], _ :: _, h, _ => h.elim
  | _, _ :: _, [], h, _ => h.elim
theorem Goods.append : ∀ {a b : List Itm}, Goods (a ++ b) → Goods b
  | [], _, h => h
  | _ :: a, _, h => Goods.append (a := a) h.2.2.2
theorem piece_hd {l k : List Nat} {v : V} (h : Piece l k v) : ∃ c r, l = c :: r ∧ c ≠ 32 ∧ c ≠ 10 := by
  cases h with
  | res h =>
    obtain ⟨⟨c, r, e, hc⟩, _⟩ := res_ok l h
    exact ⟨c, r, e, low_ok c hc⟩
  | name h =>
    obtain ⟨c, r, e, hc⟩ := h.hd
    exact ⟨c, r, e, low_ok c hc⟩
  | word h =>
    obtain ⟨c, r, e, hc⟩ := h.hd
    exact ⟨c, r, e, (upp_ok c hc).2⟩
  | num n h =>
    obtain ⟨n1, n2, _⟩ := num_ok n h
    obtain ⟨c, r, e⟩ := cons_of n1
    exact ⟨c, r, e, (dig_ok c (n2 c (by rw [e]; exact List.mem_cons_self))).2.2⟩
  | sign h =>
    obtain ⟨n1, _, _, _, n5⟩ := sgn_ok l h
    obtain ⟨c, r, e⟩ := cons_of n1
    rw [e] at n5
    have : c ∉ [32, 10] := of_decide_eq_false n5
    simp at this
    exact ⟨c, r, e, this⟩
theorem piece_len {l k : List Nat} {v : V} (h : Piece l k v) : l.length ≤ 12 := by
  cases h with
  | res h => exact (res_ok l h).2.2
  | name h => exact h.le
  | word h => exact h.le
  | num n h => have := (num_ok n h).2.2.1; omega
  | sign h => have := sgn_len l h; omega
end Dw
namespace Dw
open PySem PySem.Spec PyProof.Rows L2 SX
theorem Same.new {H H1 : Hp} {t : Addr} {o : HO} (e : Same H H1) (ht : H t = none) : Same H (L2.upd H1 t o) := fun b u h => by
  rw [upd_ne (ne_of_none h ht)]
  exact e b u h
end Dw
namespace Dw
open PySem PySem.Spec PyProof.Rows L2 SX
/-! the tokens as data -/
inductive TV : V → PyData → Prop
  | str (z : Str) : TV (.str z) (.str z)
  | int (i : Int) : TV (.int i) (.int i)
def vD : V → PyData
  | .str z => .str z
  | .int i => .int i
  | _ => .none
theorem piece_vD {l k : List Nat} {v : V} (h : Piece l k v) : TV v (vD v) := by
  cases h <;> constructor
def tokD (n : Nat) (x : Itm) : PyData := .tuple [.str (S x.k), vD x.v, .int (n : Nat)]
def toksD : Nat → List Itm → List PyData
  | _, [] => []
  | n, x :: r => tokD n x :: toksD (n + x.l.length + x.sp.length) r
theorem vD_depth (v : V) : (vD v).depth = 0 := by
  cases v <;> simp [vD, PyData.depth]
theorem ok_S {l : List Nat} (h : ∀ c ∈ l, c < 128) : PyData.strOk (S l) = true := by
  unfold PyData.strOk
  rw [← Array.all_toList]
  exact List.all_eq_true.mpr fun c hc => decide_eq_true (Nat.lt_trans (h c hc) (by decide))
theorem ld_128 : ∀ c ∈ LOW ++ DIG, c < 128 := by decide +kernel
theorem ud_128 : ∀ c ∈ UPP ++ DIG, c < 128 := by decide +kernel
theorem sgn_128 : ∀ s ∈ SGN, ∀ c ∈ s, c < 128 := by decide +kernel
theorem kinds_128 : ∀ s ∈ (["reserved", "name", "word", "number", "sign"] : List String), ∀ c ∈ cs s, c < 128 := by decide +kernel
structure LayI (x : Itm) : Prop where
  k : PyData.strOk (S x.k) = true
  v : (vD x.v).canLay0 = true
theorem piece_lay {l k : List Nat} {v : V} (h : Piece l k v) : PyData.strOk (S k) = true ∧ (vD v).canLay0 = true := by
  cases h with
  | res h => exact ⟨ok_S (kinds_128 "reserved" (by simp)), by simp only [vD, PyData.canLay0]; exact ok_S fun c hc => ld_128 c ((res_ok l h).2.1 c hc)⟩
  | name h => exact ⟨ok_S (kinds_128 "name" (by simp)), by simp only [vD, PyData.canLay0]; exact ok_S fun c hc => ld_128 c (h.all c hc)⟩
  | word h => exact ⟨ok_S (kinds_128 "word" (by simp)), by simp only [vD, PyData.canLay0]; exact ok_S fun c hc => ud_128 c (h.all c hc)⟩
  | num n h => exact ⟨ok_S (kinds_128 "number" (by simp)), by simp only [vD, PyData.canLay0]⟩
  | sign h => exact ⟨ok_S (kinds_128 "sign" (by simp)), by simp only [vD, PyData.canLay0]; exact ok_S fun c hc => sgn_128 l h c hc⟩
theorem toksD_lay : ∀ (n : Nat) (r : List Itm), (∀ x ∈ r, LayI x) → PyData.canLayAll0 (toksD n r) = true
  | _, [], _ => by simp [toksD, PyData.canLayAll0]
  | n, x :: r, h => by
    have h1 := h x List.mem_cons_self
    simp [toksD, tokD, PyData.canLayAll0, PyData.canLay0, h1.k, h1.v, toksD_lay _ r fun y hy => h y (List.mem_cons_of_mem _ hy)]
theorem toksD_depth : ∀ (n : Nat) (r : List Itm), PyData.depthAll (toksD n r) ≤ 1
  | _, [] => by simp [toksD, PyData.depthAll]
  | n, x :: r => by
    have h1 := toksD_depth (n + x.l.length + x.sp.length) r
    simp only [toksD, tokD, PyData.depthAll, PyData.depth, vD_depth x.v]
    omega
theorem toksD_shaped (n : Nat) (r : List Itm) (h : ∀ x ∈ r, LayI x) : SeqAt.shaped (.list (toksD n r)) = true := by
  have h1 := toksD_depth n r
  have h2 : PyData.depth (.list (toksD n r)) ≤ 64 := by
    simp only [PyData.depth]
    omega
  show (PyData.canLay0 (.list (toksD n r)) && decide (PyData.depth (.list (toksD n r)) ≤ 64)) = true
  rw [Bool.and_eq_true]
  exact ⟨by simp only [PyData.canLay0]; exact toksD_lay n r h, decide_eq_true h2⟩
theorem shaped_refl {d : PyData} (h : SeqAt.shaped d = true) : PyData.eqv d d = true := SeqAt.eqv_refl d (SeqAt.canLay_of_shaped h)
theorem toks_dp {K : PySem.W.Frag} {H : Hp} : ∀ {n : Nat} {r : List Itm} {as : List Addr}, (∀ x ∈ r, TV x.v (vD x.v)) → Toks H n r as → DpAll K H (as.map V.ref) (toksD n r)
  | _, [], [], _, _ => .nil
  | n, x :: r, a :: as, hv, h => by
    refine .cons (.tup (SqT.of h.1) (.cons (.str _) (.cons ?_ (.cons (.int _) .nil)))) (toks_dp (fun y hy => hv y (List.mem_cons_of_mem _ hy)) h.2)
    have := hv x List.mem_cons_self
    generalize vD x.v = d at this
    cases hx : x.v <;> rw [hx] at this <;> cases this
    · exact .int _
    · exact .str _
  | _, [], _ :: _, _, h => h.elim
  | _, _ :: _, [], _, h => h.elim
theorem strs_lay : ∀ L : List (List Nat), (∀ l ∈ L, ∀ c ∈ l, c < 128) → PyData.canLayAll0 (L.map fun l => .str (S l)) = true
  | [], _ => by simp [PyData.canLayAll0]
  | l :: L, h => by simp [PyData.canLayAll0, PyData.canLay0, ok_S (h l List.mem_cons_self), strs_lay L fun m hm => h m (List.mem_cons_of_mem _ hm)]
theorem strs_depth : ∀ L : List (List Nat), PyData.depthAll (L.map fun l => .str (S l)) = 0
  | [] => by simp [PyData.depthAll]
  | l :: L => by simp [PyData.depthAll, PyData.depth, strs_depth L]
theorem strs_shaped (L : List (List Nat)) (h : ∀ l ∈ L, ∀ c ∈ l, c < 128) : SeqAt.shaped (.list (L.map fun l => .str (S l))) = true := by
  simp [SeqAt.shaped, PyData.canLay0, PyData.depth, strs_lay L h, strs_depth]
theorem res_128 : ∀ s ∈ RES, ∀ c ∈ s, c < 128 := by decide +kernel
theorem strs_dp {K : PySem.W.Frag} {H : Hp} : ∀ L : List (List Nat), DpAll K H (L.map vS) (L.map fun l => .str (S l))
  | [] => .nil
  | _ :: L => .cons (.str _) (strs_dp L)
/-! pieces as they stand -/
structure Pc where
  r : Addr
  t : Addr
  l : List Nat
  k : List Nat
  v : V
def PcsAt (H : Hp) (ps : List Pc) : Prop := ∀ x ∈ ps, Piece x.l x.k x.v ∧ H x.r = some (.lst [.str (S x.l), .ref x.t]) ∧ H x.t = some (.tup [.str (S x.k), x.v])
theorem PcsAt.same {H H' : Hp} {ps : List Pc} (h : PcsAt H ps) (e : Same H H') : PcsAt H' ps := fun x hx => ⟨(h x hx).1, e _ _ (h x hx).2.1, e _ _ (h x hx).2.2⟩
/-- at p stands none of the pieces' objects -/
theorem PcsAt.but {H H' : Hp} {p : Addr} {ps : List Pc} (h : PcsAt H ps) (e : But p H H') (h1 : ∀ l t, H p ≠ some (.lst [.str l, .ref t])) (h2 : ∀ xs, H p ≠ some (.tup xs)) : PcsAt H' ps := fun x hx =>
  ⟨(h x hx).1, e _ _ (fun q => h1 _ _ (q ▸ (h x hx).2.1)) (h x hx).2.1, e _ _ (fun q => h2 _ (q ▸ (h x hx).2.2)) (h x hx).2.2⟩
theorem PcsAt.pool {H H' : Hp} {p q : Addr} {ns : List Int} {ps : List Pc} (h : PcsAt H ps) (hP : Pool H p q ns) (e : But p H H') : PcsAt H' ps := by
  obtain ⟨_, _, a, k, hp, _⟩ := hP
  refine h.but e (fun l t e2 => ?_) (fun xs e2 => ?_)
  · rw [hp] at e2
    cases e2
  · rw [hp] at e2
    cases e2
theorem Toks.pool {H H' : Hp} {p q : Addr} {ns : List Int} {n : Nat} {r : List Itm} {as : List Addr} (h : Toks H n r as) (hP : Pool H p q ns) (e : But p H H') : Toks H' n r as := by
  obtain ⟨_, _, a, k, hp, _⟩ := hP
  refine h.but e (fun xs e2 => ?_)
  rw [hp] at e2
  cases e2
/-! what stands behind a piece -/
def mkI : List Pc → List TRow → List Itm
  | x :: ps, y :: rs => ⟨x.l, y.2, x.k, x.v⟩ :: mkI ps rs
  | _, _ => []
theorem mkI_rows : ∀ (ps : List Pc) (rows : List TRow), rows.map (·.1) = ps.map (·.l) → (mkI ps rows).map irow = rows
  | [], [], _ => rfl
  | x :: ps, y :: rs, h => by
    rw [List.map_cons, List.map_cons] at h
    obtain ⟨h1, h2⟩ := List.cons.inj h
    show irow _ :: (mkI ps rs).map irow = y :: rs
    rw [mkI_rows ps rs h2]
    show ((x.l, y.2) : TRow) :: rs = y :: rs
    rw [← h1]
  | [], _ :: _, h => by cases h
  | _ :: _, [], h => by cases h
theorem mkI_len : ∀ (ps : List Pc) (rows : List TRow), rows.map (·.1) = ps.map (·.l) → (mkI ps rows).length = ps.length
  | [], [], _ => rfl
  | x :: ps, y :: rs, h => by
    rw [List.map_cons, List.map_cons] at h
    exact congrArg (· + 1) (mkI_len ps rs (List.cons.inj h).2)
  | [], _ :: _, h => by cases h
  | _ :: _, [], h => by cases h
theorem mkI_get : ∀ (ps : List Pc) (rows : List TRow) (i : Nat) (x : Pc) (y : TRow), ps[i]? = some x → rows[i]? = some y → (mkI ps rows)[i]? = some ⟨x.l, y.2, x.k, x.v⟩
  | [], _, _, _, _, h, _ => by simp at h
  | _ :: _, [], _, _, _, _, h => by simp at h
  | a :: ps, b :: rs, 0, x, y, h1, h2 => by
    obtain rfl := Option.some.inj h1
    obtain rfl := Option.some.inj h2
    rfl
  | a :: ps, b :: rs, i + 1, x, y, h1, h2 => mkI_get ps rs i x y h1 h2
theorem an_sp : isAN 32 = false ∧ isAN 10 = false := by decide +kernel
theorem sgn_nosp : ∀ s ∈ SGN, ∀ c ∈ s, c ≠ 32 ∧ c ≠ 10 := by decide +kernel
theorem sgn_take : ∀ s ∈ SGN, s.length = 3 → s.take 2 ∈ SGN := by decide +kernel
theorem piece_ne {l k : List Nat} {v : V} (h : Piece l k v) : l ≠ [] := by
  obtain ⟨c, r, e, _⟩ := piece_hd h
  rw [e]
  exact List.cons_ne_nil _ _
theorem joins_no {a b : List Nat} (h : joins a b = false) : (isAN (a.getLast?.getD 0) && isAN (b.head?.getD 0)) = false ∧ ∀ s ∈ SGN, (decide (a.length < s.length) && pfx a s && pfx s (a ++ b)) = false := by
  unfold joins at h
  rw [Bool.or_eq_false_iff, List.any_eq_false] at h
  exact ⟨h.1, fun s hs => Bool.eq_false_iff.mpr (h.2 s hs)⟩
theorem after_of {l sp rest : List Nat} (hb : ∀ c ∈ sp, c = 32 ∨ c = 10) (hr : sp = [] → rest ≠ [] → ∃ b tl, rest = b ++ tl ∧ b ≠ [] ∧ l ≠ [] ∧ joins l b = false) : After l (sp ++ rest) := by
  constructor
  · intro x hx hax y r hy
    cases sp with
    | cons c sp' =>
      obtain rfl : c = y := (List.cons.inj hy).1
      rcases hb c List.mem_cons_self with e | e
      · rw [e]; exact an_sp.1
      · rw [e]; exact an_sp.2
    | nil =>
      rw [List.nil_append] at hy
      obtain ⟨b, tl, e, hbn, _, hj⟩ := hr rfl (by rw [hy]; exact List.cons_ne_nil _ _)
      obtain ⟨c, b', rfl⟩ := cons_of hbn
      rw [e] at hy
      obtain rfl : c = y := (List.cons.inj hy).1
      have h1 := (joins_no hj).1
      rw [hx] at h1
      simpa [hax] using h1
  · intro s hs hlt hp
    cases hc : pfx s (l ++ (sp ++ rest)) with
    | false => rfl
    | true =>
      exfalso
      have hs3 := sgn_len s hs
      obtain ⟨u, hu⟩ := pfx_iff.mp hp
      have hune : u ≠ [] := fun e => by rw [hu, e, List.append_nil] at hlt; exact Nat.lt_irrefl _ hlt
      obtain ⟨w, hw⟩ := pfx_iff.mp hc
      rw [hu, List.append_assoc] at hw
      have hw2 := List.append_cancel_left hw
      obtain ⟨d, u', rfl⟩ := cons_of hune
      cases sp with
      | cons c sp' =>
        have e : c = d := (List.cons.inj hw2).1
        have h1 := sgn_nosp s hs d (by rw [hu]; simp)
        rcases hb c List.mem_cons_self with e2 | e2
        · exact h1.1 (by rw [← e, e2])
        · exact h1.2 (by rw [← e, e2])
      | nil =>
        rw [List.nil_append] at hw2 hc
        obtain ⟨b, tl, e, hbn, hln, hj⟩ := hr rfl (by rw [hw2]; exact List.cons_ne_nil _ _)
        have hno := (joins_no hj).2
        by_cases hle : s.length ≤ (l ++ b).length
        · have h3 := hno s hs
          rw [decide_eq_true hlt, hp] at h3
          rw [e, ← List.append_assoc] at hc
          rw [pfx_short hc hle] at h3
          cases h3
        · have l1 : 1 ≤ l.length := List.length_pos_iff.mpr hln
          have b1 : 1 ≤ b.length := List.length_pos_iff.mpr hbn
          rw [List.length_append] at hle
          have hs3' : s.length = 3 := by omega
          have hll : l.length = 1 := by omega
          have hbb : b.length = 1 := by omega
          have ht := sgn_take s hs hs3'
          have et : s.take 2 = l ++ b := by
            rw [e, ← List.append_assoc] at hc
            obtain ⟨w2, hw3⟩ := pfx_iff.mp hc
            have : (l ++ b ++ tl).take 2 = l ++ b := by
              rw [List.take_append_of_le_length (by rw [List.length_append]; omega), List.take_of_length_le (by rw [List.length_append]; omega)]
            rw [← this, hw3, List.take_append_of_le_length (by omega)]
          have h3 := hno _ ht
          rw [et] at h3
          have e1 : decide (l.length < (l ++ b).length) = true := decide_eq_true (by rw [List.length_append]; omega)
          have e2 : pfx l (l ++ b) = true := pfx_iff.mpr ⟨b, rfl⟩
          have e3 : pfx (l ++ b) (l ++ b) = true := pfx_iff.mpr ⟨[], by simp⟩
          rw [e1, e2, e3] at h3
          cases h3
theorem goods_of : ∀ (ps : List Pc) (rows : List TRow), rows.map (·.1) = ps.map (·.l) → (∀ x ∈ rows, Blank x.2) → Sepd rows → (∀ x ∈ ps, Piece x.l x.k x.v) → Goods (mkI ps rows)
  | [], [], _, _, _, _ => trivial
  | x :: ps, y :: rs, h, hb, hs, hp => by
    have h0 := h
    rw [List.map_cons, List.map_cons] at h
    obtain ⟨h1, h2⟩ := List.cons.inj h
    refine ⟨hp x List.mem_cons_self, hb y List.mem_cons_self, ?_, goods_of ps rs h2 (fun z hz => hb z (List.mem_cons_of_mem _ hz)) (fun k a b ha hb' => hs (k + 1) a b ha hb') (fun z hz => hp z (List.mem_cons_of_mem _ hz))⟩
    show After x.l (y.2 ++ flat ((mkI ps rs).map irow))
    rw [mkI_rows ps rs h2]
    refine after_of (hb y List.mem_cons_self).1 (fun hsp hne => ?_)
    cases rs with
    | nil => exact absurd rfl hne
    | cons z rs' =>
      cases ps with
      | nil => cases h2
      | cons w ps' =>
        have hw : z.1 = w.l := (List.cons.inj h2).1
        refine ⟨z.1, z.2 ++ flat rs', flat_cons _ _, by rw [hw]; exact piece_ne (hp w (by simp)), piece_ne (hp x (by simp)), ?_⟩
        cases hj : joins x.l z.1 with
        | false => rfl
        | true => exact absurd hsp (hs 0 y z rfl rfl (by rw [h1]; exact hj))
  | [], _ :: _, h, _, _, _ => by cases h
  | _ :: _, [], h, _, _, _ => by cases h
theorem places_get : ∀ (n : Nat) (rows : List TRow) (i : Nat), i < rows.length → (places n rows)[i]? = some (.int ((n + (flat (rows.take i)).length : Nat) : Int))
  | n, y :: r, 0, _ => by simp [places, flat]
  | n, y :: r, i + 1, h => by
    show (places (n + y.1.length + y.2.length) r)[i]? = _
    rw [places_get _ r i (Nat.lt_of_succ_lt_succ h), List.take_succ_cons, flat_cons, List.length_append, List.length_append]
    rw [show n + y.1.length + y.2.length + (flat (r.take i)).length = n + (y.1.length + (y.2.length + (flat (r.take i)).length)) by omega]
theorem goods_mem : ∀ {is : List Itm}, Goods is → ∀ x ∈ is, Piece x.l x.k x.v
  | [], _, _, h => nomatch h
  | y :: r, g, x, h => by
    rcases List.mem_cons.mp h with e | e
    · rw [e]; exact g.1
    · exact goods_mem g.2.2.2 x e
end Dw
namespace Dw
open PySem PySem.Spec PyProof.Rows L2 SX
/-! rules that name the written part K itself (for a comprehension's block) -/
section
variable {X : Cx} (K : PySem.W.Frag)
theorem ixL (h : X.K = K := by rfl) : IxR X (rIxL K) := h ▸ ix_list
theorem ixT (h : X.K = K := by rfl) : IxR X (rIxT K) := h ▸ ix_tup
def rLen (K : PySem.W.Frag) : List V → Hp → VK → Prop := fun xs H Q => ∃ p ys, xs = [.ref p] ∧ (SqL K H p ys ∨ SqT K H p ys) ∧ Q (.int ys.length) H
theorem lenS (h : X.K = K := by rfl) : CallR X (.builtin "len") (rLen K) := h ▸ call_len_seq
theorem inQ (h : X.K = K := by rfl) : OpR X (compareOp .In) (rIn K false) := h ▸ op_in_seq
theorem notInQ (h : X.K = K := by rfl) : OpR X (compareOp .NotIn) (rIn K true) := h ▸ op_notIn_seq
theorem catA (h : X.K = K := by rfl) : OpR X (binaryOp .Add) (rCatA K) := h ▸ op_catA
theorem eqDK (hu : X.A.units + 64 < cLine) (h : X.K = K := by rfl) : OpR X (compareOp .Eq) (rEqD K) := h ▸ op_eqD hu
theorem neDK (hu : X.A.units + 64 < cLine) (h : X.K = K := by rfl) : OpR X (compareOp .NotEq) (rNeD K) := h ▸ op_neD hu
def rListOf (K : PySem.W.Frag) : List V → Hp → VK → Prop := fun xs H Q => ∃ p ys, xs = [.ref p] ∧ (SqL K H p ys ∨ SqT K H p ys) ∧ ∀ l, H l = none → Q (.ref l) (upd H l (.lst ys))
theorem listOf (h : X.K = K := by rfl) : CallR X (.type "list") (rListOf K) := h ▸ call_list_of
def rTupOf (K : PySem.W.Frag) : List V → Hp → VK → Prop := fun xs H Q => ∃ p ys, xs = [.ref p] ∧ ((SqL K H p ys ∧ ∀ l, H l = none → Q (.ref l) (upd H l (.tup ys))) ∨ (SqT K H p ys ∧ Q (.ref p) H))
theorem tupOf (h : X.K = K := by rfl) : CallR X (.type "tuple") (rTupOf K) := h ▸ call_tuple_of
theorem isiK (h : X.K = K := by rfl) : CallR X (.builtin "isinstance") (rIsi K) := h ▸ call_isi
end
end Dw
namespace Dw
open PySem PySem.Spec PyProof.Rows L2 SX
theorem isi_of {K : PySem.W.Frag} {H : Hp} {Q : VK} {x : V} {t : Value} {c : String} {b : Bool} (ty : TyX K H x t) (k : PySem.W.kitOne K t (.type c) = some b) (q : Q (.bl b) H) : rIsi K [x, .ty c] H Q := ⟨x, .ty c, t, .type c, b, rfl, .ty _, ty, k, q⟩
end Dw
namespace Dw
open PySem PySem.Spec PyProof.Rows L2 SX
theorem Toks.get {H : Hp} : ∀ {n : Nat} {r : List Itm} {as : List Addr} {i : Nat} {x : Itm}, Toks H n r as → r[i]? = some x → ∃ (a : Addr) (m : Nat), as[i]? = some a ∧ H a = some (.tup [.str (S x.k), x.v, .int (m : Nat)])
  | _, [], [], _, _, _, h => by simp at h
  | n, y :: r, a :: as, 0, x, h, e => by
    obtain rfl := Option.some.inj e
    exact ⟨a, n, rfl, h.1⟩
  | n, y :: r, a :: as, i + 1, x, h, e => by
    obtain ⟨b, m, h1, h2⟩ := Toks.get (r := r) (i := i) (x := x) h.2 (by simpa using e)
    exact ⟨b, m, by simpa using h1, h2⟩
  | _, [], _ :: _, _, _, h, _ => h.elim
  | _, _ :: _, [], _, _, h, _ => h.elim
theorem run_no {l : List Nat} (h : hdIn LOW l = false) : (run LOW l && !decide (l ∈ RES)) = false := by
  unfold run
  rw [h]
  simp
theorem kinds_ne : cs "reserved" ≠ cs "name" ∧ cs "word" ≠ cs "name" ∧ cs "number" ≠ cs "name" ∧ cs "sign" ≠ cs "name" := by decide +kernel
theorem piece_name {l k : List Nat} {v : V} (h : Piece l k v) : (run LOW l && !decide (l ∈ RES)) = decide (k = cs "name") := by
  cases h with
  | res h =>
    rw [decide_eq_true h, decide_eq_false kinds_ne.1]
    simp
  | name h => rw [gname_iff.mpr h, decide_eq_true rfl]
  | word h =>
    obtain ⟨c, r, e, hc⟩ := h.hd
    rw [decide_eq_false kinds_ne.2.1, run_no]
    rw [e]
    exact decide_eq_false (upp_ok c hc).1
  | num n h =>
    obtain ⟨n1, n2, _⟩ := num_ok n h
    obtain ⟨c, r, e⟩ := cons_of n1
    rw [decide_eq_false kinds_ne.2.2.1, run_no]
    rw [e]
    exact decide_eq_false (dig_ok c (n2 c (by rw [e]; exact List.mem_cons_self))).1
  | sign h =>
    rw [decide_eq_false kinds_ne.2.2.2, run_no (sgn_ok l h).2.1]
theorem tv_bool {K : PySem.W.Frag} {H : Hp} {v : V} {d : PyData} (h : TV v d) : ∃ t, TyX K H v t ∧ PySem.W.kitOne K t (.type "bool") = some false := by
  cases h with
  | str z => exact ⟨_, .base (.str _), kit_ty (by decide +kernel)⟩
  | int i => exact ⟨_, .base (.int _), kit_ty (by decide +kernel)⟩
theorem kit_list {K : PySem.W.Frag} : PySem.W.kitOne K (.type "list") (.type "list") = some true := kit_ty (by decide +kernel)
/-- no names -/
def OTH : List (List Nat) := [cs "", cs "1a", List.replicate 13 97, cs "a b", cs "aB", cs "A", cs "a_"]
theorem oth_no : ∀ l ∈ OTH, (run LOW l && !decide (l ∈ RES)) = false ∧ l.length ≤ 1000 := by decide +kernel
theorem mul_a : Txt.mul (S (cs "a")) 13 = S (List.replicate 13 97) := by decide +kernel
theorem mul_z : Txt.mul (S (cs "z")) 12 = S (List.replicate 12 122) := by decide +kernel
theorem run_z : (run LOW (List.replicate 12 122) && !decide (List.replicate 12 122 ∈ RES)) = true := by decide +kernel
end Dw
namespace Dw
open PySem PySem.Spec PyProof.Rows L2 SX
/-! bad pieces -/
def BADC : List Nat := cs "!\"#$'./?@\\^_`"
inductive Bad : List Nat → Prop
  | char {c : Nat} (h : c ∈ BADC) : Bad [c]
  | longN {l : List Nat} (h0 : hdIn LOW l = true) (h1 : ∀ c ∈ l, c ∈ LOW ++ DIG) (h2 : 12 < l.length) (h3 : l.length ≤ 20) : Bad l
  | longW {l : List Nat} (h0 : hdIn UPP l = true) (h1 : ∀ c ∈ l, c ∈ UPP ++ DIG) (h2 : 12 < l.length) (h3 : l.length ≤ 20) : Bad l
  | mixN {a b : List Nat} (h0 : hdIn LOW a = true) (h1 : ∀ c ∈ a, c ∈ LOW ++ DIG) (h2 : hdIn UPP b = true) (h3 : a.length ≤ 10) (h4 : b.length ≤ 10) (h5 : ∀ c ∈ b, isAN c = true) : Bad (a ++ b)
  | mixW {a b : List Nat} (h0 : hdIn UPP a = true) (h1 : ∀ c ∈ a, c ∈ UPP ++ DIG) (h2 : hdIn LOW b = true) (h3 : a.length ≤ 10) (h4 : b.length ≤ 10) (h5 : ∀ c ∈ b, isAN c = true) : Bad (a ++ b)
  | zeros {l : List Nat} (h0 : l.head? = some 48) (h1 : ∀ c ∈ l, c ∈ DIG) (h2 : 1 < l.length) (h3 : l.length ≤ 30) : Bad l
  | big {l : List Nat} (h0 : l ≠ []) (h1 : ∀ c ∈ l, c ∈ DIG) (h2 : l.length ≤ 30) (n : Nat) (h3 : intText? (S l) = some (n : Int)) (h4 : 255 < n) : Bad l
  | letr {a b : List Nat} (h0 : a ≠ []) (h1 : ∀ c ∈ a, c ∈ DIG) (h2 : hdIn (LOW ++ UPP) b = true) (h3 : a.length ≤ 10) (h4 : b.length ≤ 10) (h5 : ∀ c ∈ b, isAN c = true) : Bad (a ++ b)
end Dw

namespace Dw
open PySem PySem.Spec PyProof.Rows L2 SX
/-! sets of texts with their order -/
def tkey (e : Int × Value) : Str := match e.2 with | .str z _ => z | _ => Str.empty
def GoodT (P : Program) (w : World) (e : Int × Value) : Prop := ∃ z u, e.2 = Value.str z u ∧ e.1 = (PySem.strKind P w).hash z
/-- at a: a set of the texts ks -/
def TxSet (P : Program) (w : World) (h : Heap) (a : Addr) (ks : List Str) : Prop :=
  ∃ ob xs ep tb, h.get? a = some ob ∧ ob.ExactSet ∧ ob.data = .set xs ep tb ∧ (∀ e ∈ xs.toList, GoodT P w e) ∧ (xs.toList.map tkey).Perm ks ∧ ks.Nodup ∧
    xs.size < scanBound ∧ tb.fits xs.size = true ∧ Ris tb.place.toList ∧ (w.params.followText "set-order" = true ∨ tb.led = true)
section
variable {P : Program} {w : World} {h h' : Heap} {a : Addr} {ks : List Str}
theorem TxSet.at (R : TxSet P w h a ks) (k : ∀ ob, h.get? a = some ob → h'.get? a = some ob) : TxSet P w h' a ks := by
  obtain ⟨ob, xs, ep, tb, g, rest⟩ := R
  exact ⟨ob, xs, ep, tb, k ob g, rest⟩
theorem goodT_elems {l : List (Int × Value)} (g : ∀ e ∈ l, GoodT P w e) : ElemsOf (PySem.strKind P w) l := fun e he => by
  obtain ⟨z, u, e1, e2⟩ := g e he
  exact ⟨⟨z, by rw [e1]; exact strKind_is P w z u, e2⟩, by rw [e1] <;> rfl⟩
theorem goodT_is {e : Int × Value} (g : GoodT P w e) (z : Str) : (PySem.strKind P w).is z e.2 = true ↔ tkey e = z := by
  obtain ⟨z0, u, e1, _⟩ := g
  unfold tkey
  rw [e1]
  show ((z0 == z) = true) ↔ z0 = z
  exact beq_iff_eq
end
section
variable {P : Program} {w : World} {A : Around} {E : Value → Shared → Prop} {s : Shared} {a : Addr} {ks : List Str}
def putT (z : Str) (ks : List Str) : List Str := if z ∈ ks then ks else z :: ks
/-- what stands behind the laying of one more -/
theorem tx_tail {gv : Bool → Sem Unit} (hgv : ∀ (b : Bool) (s1 : Shared) (R1 : Unit → Shared → Prop), R1 () s1 → wpAny (model P w) A (gv b) R1 E s1)
    {ob : Obj} {xs : Array (Int × Value)} {ep : Nat} {tb : SetTable} (ho : s.heap.get? a = some ob) (hx : ob.ExactSet) (hd : ob.data = .set xs ep tb)
    {ys : Array (Int × Value)} {tc : SetTable} {ls : List Str} (g1 : ∀ e ∈ ys.toList, GoodT P w e) (pm1 : (ys.toList.map tkey).Perm ls) (nd1 : ls.Nodup)
    (b1 : ys.size < scanBound) (f1 : tc.fits ys.size = true) (r1 : Ris tc.place.toList) (l1 : w.params.followText "set-order" = true ∨ tc.led = true) {wd : Bool} {R : Option Bool → Shared → Prop}
    (hR : ∀ h', Heap.SameBut a s.heap h' → TxSet P w h' a ls → R (some true) { s with heap := h' }) :
    wpAny (model P w) A (do
        storeSet a ys tc
        if (!wd && tc.tooFull) = true then do
            gv (relayAll tc ys (SetTable.grown ys.size)).2.2
            storeSet a (relayAll tc ys (SetTable.grown ys.size)).1 (relayAll tc ys (SetTable.grown ys.size)).2.1
            pure (some true)
          else pure (some true)) R E s := by
  refine wpAny_bind (wpAny_storeSet_of ho hd ?_ (fits_of_scanBound b1))
  have o1 := store_at (es' := ys) (t' := tc) ho hd
  have sb := Heap.SameBut.update s.heap a (Obj.putSet ys tc)
  split
  · have pz := relayAll_perm tc ys (SetTable.grown ys.size)
    have fz := relayAll_fits tc ys (SetTable.grown ys.size)
    have rz := relayAll_ris tc ys (SetTable.grown ys.size)
    have lz := relayAll_led tc ys (SetTable.grown ys.size)
    generalize relayAll tc ys (SetTable.grown ys.size) = Z at pz fz rz lz ⊢
    obtain ⟨zs, td, gave⟩ := Z
    dsimp only at pz fz rz lz ⊢
    have hz : zs.size = ys.size := by rw [← Array.length_toList, pz.length_eq, Array.length_toList]
    have bz : zs.size < scanBound := by rw [hz]; exact b1
    refine wpAny_bind (hgv _ _ _ ?_)
    refine wpAny_bind (wpAny_storeSet_of o1 rfl ?_ (fits_of_scanBound bz))
    have o2 := store_at (es' := zs) (t' := td) o1 rfl
    refine wpAny_pure (hR _ (sb.trans (Heap.SameBut.update _ a _)) ?_)
    exact ⟨_, zs, _, td, o2, hx, rfl, fun e m => g1 e (pz.mem_iff.mp m), (pz.map tkey).trans pm1, nd1, bz, fz, rz, l1.imp id fun q => by rw [lz]; exact q⟩
  · exact wpAny_pure (hR _ sb ⟨_, ys, _, tc, o1, hx, rfl, g1, pm1, nd1, b1, f1, r1, l1⟩)
theorem tx_add {z : Str} {u : Tok} {Q : Bool → Shared → Prop} (R : TxSet P w s.heap a ks) (room : ks.length + 1 < scanBound)
    (hQ : ∀ h', Heap.SameBut a s.heap h' → TxSet P w h' a (putT z ks) → Q (!decide (z ∈ ks)) { s with heap := h' }) :
    wpAny (model P w) A (setAddHashed a (.str z u) ((PySem.strKind P w).hash z)) Q E s := by
  obtain ⟨ob, xs, ep, tb, ho, hx, hd, g, pm, nd, hb, hf, hr, hl⟩ := R
  have hkey : (PySem.strKind P w).is z (.str z u) = true := strKind_is P w z u
  have hsc : (Value.str z u).scannable = true := rfl
  have hel := goodT_elems g
  have hmem : z ∈ ks ↔ ∃ e ∈ xs.toList, (PySem.strKind P w).is z e.2 = true := by
    rw [← pm.mem_iff, List.mem_map]
    constructor
    · rintro ⟨e, m, q⟩
      exact ⟨e, m, (goodT_is (g e m) z).2 q⟩
    · rintro ⟨e, m, q⟩
      exact ⟨e, m, (goodT_is (g e m) z).1 q⟩
  unfold setAddHashed setAddHashedIn
  refine wpAny_holding (wpAny_bind (wpAny_setState_of ho hd hf ?_))
  dsimp only
  rw [byScan_of hsc hb hel]
  simp only [↓reduceIte]
  unfold setAddByScan
  refine wpAny_bind ?_
  refine wpAny_bind (wpAny_rule ?_)
  refine wpAny_bind (wpAny_setScan_of hkey ho hd hf hel ?_)
  cases hfi : List.findIdx? (fun e => (PySem.strKind P w).is z e.2) xs.toList with
  | some j =>
    dsimp only
    obtain ⟨hj, pj, _⟩ := List.findIdx?_eq_some_iff_getElem.mp hfi
    have hin : z ∈ ks := hmem.2 ⟨xs.toList[j], List.getElem_mem hj, pj⟩
    refine wpAny_pure (wpAny_pure ?_)
    have q := hQ s.heap (Heap.SameBut.refl a s.heap) (by
      unfold putT
      rw [if_pos hin]
      exact ⟨ob, xs, ep, tb, ho, hx, hd, g, pm, nd, hb, hf, hr, hl⟩)
    rw [decide_eq_true hin] at q
    exact q
  | none =>
    dsimp only
    have hout : z ∉ ks := fun m => by
      obtain ⟨e, m1, q⟩ := hmem.1 m
      have c := List.findIdx?_eq_none_iff.mp hfi e m1
      rw [q] at c
      cases c
    have hgv : ∀ (b : Bool) {s1 : Shared} {R1 : Unit → Shared → Prop}, R1 () s1 → wpAny (model P w) A (match b with | true => rule "set.scan.the-table-gave-way" | false => pure ()) R1 E s1 :=
      fun b s1 R1 q => by cases b <;> first | exact wpAny_pure q | exact wpAny_rule q
    have pn := layNew_perm tb xs ((PySem.strKind P w).hash z) (.str z u)
    have fn := layNew_fits tb xs ((PySem.strKind P w).hash z) (.str z u)
    have rn := layNew_ris tb xs ((PySem.strKind P w).hash z) (.str z u) hr
    have ln := layNew_led tb xs ((PySem.strKind P w).hash z) (.str z u)
    generalize layNew tb xs ((PySem.strKind P w).hash z) (.str z u) = Z at pn fn rn ln ⊢
    obtain ⟨ys, tc, wd, gave⟩ := Z
    dsimp only at pn fn rn ln ⊢
    rw [Array.toList_push] at pn
    have pc : ys.toList.Perm (((PySem.strKind P w).hash z, Value.str z u) :: xs.toList) := pn.trans (List.perm_append_singleton _ _)
    have pk : (ys.toList.map tkey).Perm (z :: ks) := (pc.map tkey).trans (pm.cons z)
    have g1 : ∀ e ∈ ys.toList, GoodT P w e := fun e m => by
      rcases List.mem_cons.mp (pc.mem_iff.mp m) with q | q
      · rw [q]; exact ⟨z, u, rfl, rfl⟩
      · exact g e q
    have nd1 : (z :: ks).Nodup := List.nodup_cons.mpr ⟨hout, nd⟩
    have b1 : ys.size < scanBound := by
      have e := pk.length_eq
      rw [List.length_map, Array.length_toList, List.length_cons] at e
      rw [e]; exact room
    have l1 : w.params.followText "set-order" = true ∨ tc.led = true := hl.imp id fun q => by rw [ln]; exact q
    have fin : ∀ h', Heap.SameBut a s.heap h' → TxSet P w h' a (z :: ks) → Q true { s with heap := h' } := fun h' sb r => by
      have q := hQ h' sb (by
        unfold putT
        rw [if_neg hout]
        exact r)
      rw [decide_eq_false hout] at q
      exact q
    refine wpAny_bind (hgv _ ?_)
    split
    · refine wpAny_bind ?_
      rw [hashByValue_scannable 8 hsc]
      refine wpAny_pure ?_
      refine tx_tail ?_ ho hx hd g1 pk nd1 b1 ?_ ?_ ?_ ?_
      · intro b s1 R1 q; cases b <;> first | exact wpAny_pure q | exact wpAny_rule q
      · first | (split <;> first | exact fn | exact SetTable.fits_plain_off fn) | exact fn
      · first | (split <;> exact rn) | exact rn
      · first | (split <;> exact l1) | exact l1
      · intro h' sb r; dsimp only; exact wpAny_pure (fin h' sb r)
    · refine wpAny_bind (wpAny_pure ?_)
      simp only [↓reduceIte]
      refine tx_tail ?_ ho hx hd g1 pk nd1 b1 fn rn l1 ?_
      · intro b s1 R1 q; cases b <;> first | exact wpAny_pure q | exact wpAny_rule q
      · intro h' sb r; dsimp only; exact wpAny_pure (fin h' sb r)
end
end Dw

namespace Dw
open PySem PySem.Spec PyProof.Rows L2 SX
/-- the texts that stand in xs, each once -/
def setL (xs : List Str) : List Str := xs.foldl (fun ks z => putT z ks) []
theorem setL_snoc (xs : List Str) (z : Str) : setL (xs ++ [z]) = putT z (setL xs) := by
  unfold setL
  rw [List.foldl_append]
  rfl
theorem putT_mem {z y : Str} {ks : List Str} : y ∈ putT z ks ↔ y = z ∨ y ∈ ks := by
  unfold putT
  by_cases h : z ∈ ks
  · rw [if_pos h]
    exact ⟨.inr, fun q => q.elim (fun e => e ▸ h) id⟩
  · rw [if_neg h, List.mem_cons]
theorem putT_nodup {z : Str} {ks : List Str} (d : ks.Nodup) : (putT z ks).Nodup := by
  unfold putT
  by_cases h : z ∈ ks
  · rw [if_pos h]; exact d
  · rw [if_neg h]; exact List.nodup_cons.mpr ⟨h, d⟩
theorem putT_len (z : Str) (ks : List Str) : (putT z ks).length ≤ ks.length + 1 := by
  unfold putT
  split
  · exact Nat.le_succ _
  · exact Nat.le_refl _
theorem fold_mem (y : Str) : ∀ (xs ks : List Str), y ∈ xs.foldl (fun ks z => putT z ks) ks ↔ y ∈ ks ∨ y ∈ xs
  | [], ks => by simp
  | x :: xs, ks => by
    rw [List.foldl_cons, fold_mem y xs, putT_mem, List.mem_cons]
    constructor
    · rintro ((h | h) | h)
      · exact .inr (.inl h)
      · exact .inl h
      · exact .inr (.inr h)
    · rintro (h | h | h)
      · exact .inl (.inr h)
      · exact .inl (.inl h)
      · exact .inr h
theorem fold_nodup : ∀ (xs ks : List Str), ks.Nodup → (xs.foldl (fun ks z => putT z ks) ks).Nodup
  | [], _, d => d
  | _ :: xs, _, d => fold_nodup xs _ (putT_nodup d)
theorem fold_len : ∀ (xs ks : List Str), (xs.foldl (fun ks z => putT z ks) ks).length ≤ ks.length + xs.length
  | [], _ => Nat.le_refl _
  | x :: xs, ks => by
    have h1 := fold_len xs (putT x ks)
    have h2 := putT_len x ks
    rw [List.foldl_cons, List.length_cons]
    omega
theorem setL_mem {xs : List Str} {y : Str} : y ∈ setL xs ↔ y ∈ xs := by
  unfold setL
  rw [fold_mem]
  simp
theorem setL_nodup (xs : List Str) : (setL xs).Nodup := fold_nodup xs [] List.nodup_nil
theorem setL_len (xs : List Str) : (setL xs).length ≤ xs.length := by
  have := fold_len xs []
  simpa [setL] using this
section
variable {P : Program} {w : World} {A : Around} {E : Value → Shared → Prop} {s : Shared}
theorem tx_fresh {h : Heap} {a : Addr} (g : h.get? a = some { cls := .type "set", dict := none, data := .set #[] 0 (.fresh 0 0 (!w.params.followText "set-order")) }) : TxSet P w h a [] :=
  ⟨_, #[], 0, _, g, ⟨rfl, rfl, rfl⟩, rfl, (fun e m => by simp at m), List.Perm.refl _, List.nodup_nil, (by decide), (by rfl), List.Pairwise.nil, by
    cases q : w.params.followText "set-order"
    · exact .inr rfl
    · exact .inl rfl⟩
theorem tx_update {I : Addr} {fp wr : List Addr} {G : Array GenState → Array GenState → Prop} {m : Nat} {Pv : Nat → Value → Prop} {St : Nat → Shared → Prop} {R : Result → Shared → Prop}
    (W : WalksS P w A.in1 I fp wr G m Pv St) (D : Addr) (hD : D ∉ fp) (xs : List Str) (hm : m = xs.length) (hb : xs.length + 1 < scanBound) (hval : ∀ i v, Pv i v → ∃ z u, xs[i]? = some z ∧ v = .str z u) :
    ∀ (k i : Nat) (s : Shared), m - i = k → i ≤ m → St i s → TxSet P w s.heap D (setL (xs.take i)) →
      (∀ s', Moved (D :: wr) G s s' → TxSet P w s'.heap D (setL xs) → R (.ok (.ret .none)) s') →
      codeAny (model P w) A (.builtin "set.update.loop" ⟨[.ref D, .ref I], []⟩) R s := by
  have hDw : D ∉ wr := fun q => hD (W.sub _ q)
  have wider : ∀ b ∈ wr, b ∈ D :: wr := fun b q => List.mem_cons_of_mem _ q
  intro k
  induction k with
  | zero =>
    intro i s hk him st set out
    obtain rfl : i = m := by omega
    refine codeAny_builtin F.entry_set_update_loop ?_
    rw [Around.under_plainId F.plain_set_update_loop _]
    show wpAny _ A.in1 (pyNext (.ref I) >>= _) _ _ s
    refine wpAny_bind (W.done s _ _ st fun s2 mv => ?_)
    show wpAny _ A.in1 (ret Value.none) _ _ s2
    rw [List.take_of_length_le (by omega)] at set
    exact wpAny_pure (out s2 (mv.mono wider) (set.at fun ob e => mv.heap D ob hDw e))
  | succ k ih =>
    intro i s hk him st set out
    have lt : i < m := by omega
    refine codeAny_builtin F.entry_set_update_loop ?_
    rw [Around.under_plainId F.plain_set_update_loop _]
    show wpAny _ A.in1 (pyNext (.ref I) >>= _) _ _ s
    refine wpAny_bind (W.item i s _ _ lt st fun v s2 hv st2 mv => ?_)
    obtain ⟨z, u, hz, rfl⟩ := hval i v hv
    have set2 : TxSet P w s2.heap D (setL (xs.take i)) := set.at fun ob e => mv.heap D ob hDw e
    show wpAny _ A.in1 (holding [Value.str z u] (setAdd D (.str z u)) >>= _) _ _ s2
    refine wpAny_bind (wpAny_holding ?_)
    unfold setAdd
    refine wpAny_holding ?_
    refine wpAny_bind ((PySem.strKind P w).pyHash (k := z) (strKind_is _ _ _ _) ?_)
    have hlen : (setL (xs.take i)).length + 1 < scanBound := by
      have q := setL_len (xs.take i)
      rw [List.length_take] at q
      omega
    refine tx_add (s := { s2 with toks := s2.toks + 1 }) set2 hlen fun h3 sb set3 => ?_
    have set4 : TxSet P w h3 D (setL (xs.take (i + 1))) := by
      rw [List.take_add_one, hz]
      show TxSet P w h3 D (setL (xs.take i ++ [z]))
      rw [setL_snoc]
      exact set3
    refine wpAny_pure ⟨plainId_quiet F.plain_set_update_loop _, ih (i + 1) _ (by omega) lt (W.frame _ s2 _ _ st2 (Nat.le_succ _) fun b q ob e => ?_) set4 fun s5 mv5 set5 => ?_⟩
    · rw [sb.2 b (fun z : b = D => hD (by rw [← z]; exact q))]; exact e
    · refine out s5 (Moved.trans W.gtrans ((mv.mono wider).then_heap (Nat.le_succ _) fun b ob q e => ?_) mv5) set5
      rw [sb.2 b (fun z : b = D => q (by rw [z]; exact List.mem_cons_self))]; exact e
end
end Dw

namespace Dw
open PySem PySem.Spec PyProof.Rows L2 SX
section
variable {P : Program} {w : World} {A : Around} {E : Value → Shared → Prop} {s : Shared}
set_option maxHeartbeats 3200000 in
theorem call_set_txt {l : Addr} {its : Array Value} (xs : List Str) {Q : Value → Shared → Prop} (hh : A.handled = none) (hl : s.heap.IsList l its) (hi : StrsAre its.toList xs) (hb : xs.length + 1 < scanBound)
    (out : ∀ (h' : Heap) (tk : Nat), TxSet P w h' s.heap.objs.size (setL xs) → (∀ b u, s.heap.get? b = some u → h'.get? b = some u) → Q (.ref s.heap.objs.size) { s with heap := h', toks := tk }) :
    wpAny (model P w) A (call (.type "set") [.ref l]) Q E s := by
  have isz : its.size = xs.length := by
    have q := StrsAre.len_eq hi
    rw [Array.length_toList] at q
    exact q
  obtain ⟨cc, ctl, mro⟩ := F.called_set.mro
  have made := F.called_set.made
  have subs := F.called_set.sub
  refine wpAny_call (codeAny_of_tree ?_)
  show wpAny _ _ (callAny (.type "set") _) _ _ _
  refine wpAny_pure ⟨Code.quiet_builtin _ (by decide +kernel), codeAny_builtin F.entry_type_call ?_⟩
  rw [Around.under_plain (weight_type_call_type "set" [.ref l] []) rfl]
  have f1 := F.called_set.notType
  have f2 := F.called_set.canCreate
  have f3 := F.typeCall_set_1 (.ref l)
  repeat (any_goals (first | assumption | wp_step))

  refine codeAny_mono (code_set_led1 (.ref l) (E := E) (Q₁ := fun ob s1 => ob = .ref s.heap.objs.size ∧ s1 = { s with heap := s.heap.push (Obj.mk (Value.type "set") none (Data.set #[] 0 (SetTable.fresh 0 0 (!(World.params w).followText "set-order"))) #[]) }) ⟨rfl, rfl⟩) fun r s1 hr => ?_
  cases r with
  | error e => exact hr
  | ok fl =>
    cases fl with
    | ret ob =>
      obtain ⟨rfl, rfl⟩ := hr
      have gS : (s.heap.push (Obj.mk (Value.type "set") none (Data.set #[] 0 (SetTable.fresh 0 0 (!(World.params w).followText "set-order"))) #[])).get? s.heap.objs.size = some (Obj.mk (Value.type "set") none (Data.set #[] 0 (SetTable.fresh 0 0 (!(World.params w).followText "set-order"))) #[]) := Heap.get?_push_size _ rfl
      have tS : Shared.TypeIs { s with heap := s.heap.push (Obj.mk (Value.type "set") none (Data.set #[] 0 (SetTable.fresh 0 0 (!(World.params w).followText "set-order"))) #[]) } (.ref s.heap.objs.size) "set" := ⟨_, gS, rfl⟩
      have li := F.called_set.init.lookup
      have bi := F.called_set.init.bind (.ref s.heap.objs.size)
      repeat (any_goals (first | assumption | wp_step))

      refine codeAny_mono (codeAny_call_builtin (R := wants (fun r s2 => r = .none ∧ ∃ h' tk, s2 = { s with heap := h', toks := tk } ∧ TxSet P w h' s.heap.objs.size (setL xs) ∧
          (∀ b u, s.heap.get? b = some u → h'.get? b = some u)) E) F.called_set.init.plain F.entry_set_init (check_set_init_1 tS ?_)) fun r2 s2 hr2 => ?_
      · obtain ⟨ol, gl, cl, nl, dl⟩ := hl
        obtain ⟨ocls, odict, odata, oslots⟩ := ol
        simp only at cl dl
        subst cl; subst dl
        have gl2 : (s.heap.push (Obj.mk (Value.type "set") none (Data.set #[] 0 (SetTable.fresh 0 0 (!(World.params w).followText "set-order"))) #[])).get? l = some { cls := .type "list", dict := odict, data := .seq its nl, slots := oslots } := Heap.get?_push_of_some _ gl
        have x1 := F.sub_list_set
        have x2 := F.sub_list_frozenset
        have x3 : (Value.type "list" == Value.type "dict") = false := by decide
        have il : (s.heap.push (Obj.mk (Value.type "set") none (Data.set #[] 0 (SetTable.fresh 0 0 (!(World.params w).followText "set-order"))) #[])).IsList l its := ⟨_, gl2, rfl, nl, rfl⟩
        unfold Builtin.«set.__init__» noKeywords Builtin.Frozenset.updateFrom
        generalize hPI : pyIter = PI
        wp_walk
        subst hPI

        refine wpAny_pyIter_list il ?_
        refine wpAny_bind (wpAny_runValue ?_)
        have ll : l < s.heap.objs.size := Heap.lt_size gl
        have h3 : A.in1.in1.in1.handled = none := by simp [hh]
        have nI : l ≠ (s.heap.push (Obj.mk (Value.type "set") none (Data.set #[] 0 (SetTable.fresh 0 0 (!(World.params w).followText "set-order"))) #[])).objs.size := by
          rw [Heap.size_push]; exact Nat.ne_of_lt (Nat.lt_succ_of_lt ll)
        have nF : s.heap.objs.size ∉ [(s.heap.push (Obj.mk (Value.type "set") none (Data.set #[] 0 (SetTable.fresh 0 0 (!(World.params w).followText "set-order"))) #[])).objs.size, l] := by
          rw [Heap.size_push]; simp only [List.mem_cons, List.mem_singleton, List.not_mem_nil, or_false, not_or]
          exact ⟨Nat.ne_of_lt (Nat.lt_succ_self _), Nat.ne_of_gt ll⟩
        have hval : ∀ (i : Nat) (v : Value), its[i]? = some v → ∃ z u, xs[i]? = some z ∧ v = .str z u := fun i v hv => by
          obtain ⟨z, u, e1, e2⟩ := StrsAre.item hi i v (by rw [Array.getElem?_toList]; exact hv)
          exact ⟨z, u, e2, e1⟩
        refine tx_update ((Walks.list h3 _ l nI its).toS) s.heap.objs.size
          nF xs isz hb hval (its.size - 0) 0 _ (by omega) (Nat.zero_le _)
          ⟨⟨_, Heap.get?_push_size _ rfl, rfl, rfl⟩, (il.push _)⟩ ?hS0 ?hR
        case hS0 => exact tx_fresh (Heap.get?_push_of_some _ gS)
        case hR =>
          intro s' mv set
          obtain ⟨h', g2, d', tk', os'⟩ := s'
          obtain rfl : g2 = s.gens := mv.gens
          obtain rfl : d' = s.drawn := mv.drawn
          obtain rfl : os' = s.os := mv.os
          show wpAny _ _ _ _ _ _
          refine wpAny_pure ?_
          show wpAny _ _ (ret Value.none) _ _ _
          refine wpAny_pure ⟨rfl, h', tk', rfl, set, fun b u e => ?_⟩
          have lb : b < s.heap.objs.size := Heap.lt_size e
          have n1 : b ≠ s.heap.objs.size := Nat.ne_of_lt lb
          have n2 : b ≠ (s.heap.push (Obj.mk (Value.type "set") none (Data.set #[] 0 (SetTable.fresh 0 0 (!(World.params w).followText "set-order"))) #[])).objs.size := by
            rw [Heap.size_push]; exact Nat.ne_of_lt (Nat.lt_succ_of_lt lb)
          exact mv.heap b u (by simp only [List.mem_cons, List.mem_singleton, List.not_mem_nil, or_false, not_or]; exact ⟨n1, n2⟩) (Heap.get?_push_of_some _ (Heap.get?_push_of_some _ e))

      · cases r2 with
        | error e => exact hr2
        | ok fl2 =>
          cases fl2 with
          | ret r =>
            obtain ⟨rfl, h', tk, rfl, set, keep⟩ := hr2
            repeat (any_goals (first | assumption | wp_step))
            exact out _ _ set keep
          | _ => exact hr2.elim
    | _ => exact hr.elim
theorem strs_out : ∀ (l : List Value), (∀ v ∈ l, ∃ z u, v = Value.str z u) → StrsAre l (l.map strOf)
  | [], _ => .nil
  | v :: l, h => by
    obtain ⟨z, u, rfl⟩ := h v List.mem_cons_self
    exact .cons z u (strs_out l fun y hy => h y (List.mem_cons_of_mem _ hy))
theorem sorted_txt {a : Addr} {ks : List Str} {Q : Value → Shared → Prop} (R : TxSet P w s.heap a ks) (hh : A.handled = none) (h64 : ks.length < 64)
    (hQ : ∀ s' p (ys : List Str), (∀ b u, s.heap.get? b = some u → s'.heap.get? b = some u) → s'.gens = s.gens → s'.os = s.os → s.heap.objs.size ≤ p →
      (∃ (its : Array Value) (c : Nat), s'.heap.get? p = some (seqObj "list" its c) ∧ StrsAre its.toList ys) → ys.Perm ks → sortedS ys = true → Q (.ref p) s') :
    wpAny (model P w) A (call (.builtin "sorted") [.ref a]) Q E s := by
  obtain ⟨ob, xs, ep, tb, ho, hx, hd, g, pm, nd, hb, hf, hr, hl⟩ := R
  refine Calls.call_function_entry kind_sorted plain_sorted entry_sorted (args_sorted1 _) ?_
  unfold Builtin.«sorted»
  refine wpAny_bind (m := checkCount "sorted" 1 1 _) (wpAny_pure ?_)
  refine wpAny_bind (collect_set (A := A.in1) hh ⟨ob, ho, hx.1, hd⟩ hf hb hr hl fun s1 vs k1 hz g1 o1 pv => ?_)
  have hS : StrsAre vs (vs.map strOf) := strs_out vs fun v hv => by
    obtain ⟨e, he, q⟩ := List.mem_map.mp (pv.mem_iff.mp hv)
    obtain ⟨z, u, e1, _⟩ := g e he
    exact ⟨z, u, by rw [← q]; exact e1⟩
  have pk : (vs.map strOf).Perm ks := by
    have q := pv.map strOf
    rw [List.map_map] at q
    have e : xs.toList.map (strOf ∘ fun x => x.2) = xs.toList.map tkey := List.map_congr_left fun e he => by
      obtain ⟨z, u, e1, _⟩ := g e he
      show strOf e.2 = tkey e
      unfold tkey
      rw [e1]
      rfl
    exact (e ▸ q).trans pm
  have vl : vs.length < 64 := by
    have q := pk.length_eq
    rw [List.length_map] at q
    omega
  refine wpAny_bind (wpAny_newList ?_ (by rw [sizeLine_eq]; omega))
  have gL : (s1.heap.push (seqObj "list" vs.toArray 0)).get? s1.heap.objs.size = some (seqObj "list" vs.toArray 0) := Heap.get?_push_size _ rfl
  refine wpAny_bind (wpAny_holding (wpAny_call_entry slot_list_sort ⟨_, gL, rfl⟩ entry_list_sort (list_sort_treeK strKind_oneLt gL hS.keysOf (fun v1 v2 rest e => keyKind_strs (by rw [← e]; exact hS)) vl fun st hp hs => ⟨_, rfl, ?_⟩) (args_list_sort _)))
  obtain ⟨ys, y1, y2, y3⟩ := sorted_out_str hS hp hs
  obtain ⟨c, hc⟩ := sortedHeap_at (vs := vs) (out := (arrOf st).map (·.2)) gL
  refine wpAny_pure ⟨_, rfl, hQ _ s1.heap.objs.size ys (fun b u e => ?_) g1 o1 hz ⟨_, c, hc, y1⟩ (y2.trans pk) y3⟩
  have q := k1 b u e
  have lt := Heap.lt_size q
  show (sortedHeap (s1.heap.push (seqObj "list" vs.toArray 0)) s1.heap.objs.size vs _).get? b = some u
  rw [sortedHeap_old (Nat.ne_of_lt lt) (by rw [size_push']; exact Nat.lt_succ_of_lt lt)]
  exact Heap.get?_push_of_some _ q
end
/-- at a: a set of texts -/
def SetTx (P : Program) (w : World) (a : Addr) (ks : List Str) : HO := .ext fun h => TxSet P w h a ks
section
variable {X : Cx} (K : PySem.W.Frag)
theorem setTx_new {w : World} {P : Program} {H : Hp} {h : Heap} {a : Addr} {ks : List Str} (R : TxSet P w h a ks) : ObjOk P w H h a (SetTx P w a ks) := by
  have ⟨ob, _, _, _, ho, _⟩ := R
  exact ⟨R, ⟨ob, ho⟩, fun h1 h2 p k => TxSet.at p k⟩
/-- set(a list of texts) -/
def rSetL (K : PySem.W.Frag) (P : Program) (w : World) : List V → Hp → VK → Prop := fun vs H Q => ∃ (l : Addr) (zs : List Str), vs = [.ref l] ∧ SqL K H l (zs.map V.str) ∧ zs.length ≤ 1000 ∧ ∀ p, H p = none → Q (.ref p) (upd H p (SetTx P w p (setL zs)))
theorem setOfL (hc : X.calm = true) (hK : X.K = K := by rfl) : CallR X (.type "set") (rSetL K X.prog X.w) := by
  subst hK
  intro pins s σ H vs us Q I r h
  obtain ⟨l, zs, rfl, hl, hz, q⟩ := h
  obtain ⟨its, rv, il, _⟩ := I.list hl
  rw [Vals.ref1 r]
  refine call_set_txt zs (I.ok.hd hc) il.isList rv.strs (by unfold scanBound; omega) fun h' tk set keep => ?_
  exact ⟨.ref _, _, I.laid (t' := tk) keep (Nat.le_refl _) (setTx_new set), rfl, q _ (I.hok.fresh (Nat.le_refl _))⟩
/-- sorted(a set of texts) -/
def rSortT (P : Program) (w : World) : List V → Hp → VK → Prop := fun vs H Q => ∃ (a : Addr) (ks : List Str), vs = [.ref a] ∧ H a = some (SetTx P w a ks) ∧ ks.length < 64 ∧ ∀ (ys : List Str) (p : Addr), ys.Perm ks → sortedS ys = true → H p = none → Q (.ref p) (upd H p (.lst (ys.map V.str)))
theorem sortT (hc : X.calm = true) : CallR X (.builtin "sorted") (rSortT X.prog X.w) := by
  intro pins s σ H vs us Q I r h
  obtain ⟨a, ks, rfl, ha, h64, q⟩ := h
  rw [Vals.ref1 r]
  refine sorted_txt ((I.hok a _ ha).1 : TxSet X.prog X.w s.heap a ks) (I.ok.hd hc) h64 fun s' p ys keep g o hp hg pm so => ?_
  obtain ⟨its, c, hg, hi⟩ := hg
  have len : (ys.map V.str).length ≤ sizeLine := by rw [List.length_map, pm.length_eq]; exact small (by omega)
  have free : H p = none := I.hok.fresh hp
  have J : Inv X pins σ (upd H p (.lst (ys.map V.str))) { s with heap := s'.heap, gens := s'.gens, drawn := s'.drawn, toks := s'.toks } :=
    I.call (ch := []) (Un.laid keep hp free) (I.hok.laid keep hp ⟨len, its.toList, c, vals_of_strs hi, hg⟩) (by rw [g]; exact I.bare) (fun _ z => nomatch z)
  have e : s' = { s with heap := s'.heap, gens := s'.gens, drawn := s'.drawn, toks := s'.toks } := by
    cases s'
    cases s
    cases o
    rfl
  rw [e]
  exact ⟨.ref p, _, J, rfl, q ys p pm so free⟩
end
end Dw

namespace Dw
open PySem PySem.Spec PyProof.Rows L2
/-! try with several clauses, each with a name: «except A as e: .. except B as e: ..» -/
abbrev Clause := Value × Nat × (Addr → Value → Option Addr → TS)
/-- the ends of a suite whose name is unbound behind it -/
def unb (i : Nat) (D : Ends) : Ends := { nx := fun σ H => D.nx (σ.set i none) H, rt := D.rt, bk := fun σ H => D.bk (σ.set i none) H, ct := fun σ H => D.ct (σ.set i none) H }
def wNamed (K : PySem.W.Frag) (Wo : WX) (D : Ends) : List Clause → WX
  | [] => Wo
  | (c, i, ts) :: rest => fun cls d σ H => ∃ b, PySem.W.exmOne K cls c = some b ∧
      (b = true → ∀ a, H a = none → ts a cls d (unb i D) (σ.set i (some (.ref a))) H) ∧ (b = false → wNamed K Wo D rest cls d σ H)
inductive Named (X : Cx) : List ExceptHandler → List Clause → Prop
  | none : Named X [] []
  | more {x n : Str} {c : Value} {i : Nat} {ts : Addr → Value → Option Addr → TS} {st : Stmt} {sts : List Stmt} {p p' : Pos} {hs : List ExceptHandler} {l : List Clause}
      (nm : Names X x c) (at_i : X.N[i]? = some n) (loc : X.env.kindOf n = some .local)
      (su : ∀ (a : Addr) (oe : Obj) (cls : Value) (d : Option Addr) (pn : List (Addr × Obj)), Zc cls d oe → (∃ vs, oe.data = .fields vs) → PSs (X.suite a ((a, oe) :: pn)) (st :: sts) (ts a cls d))
      (rest : Named X hs l) : Named X (.ExceptHandler (some (.Name x p)) (some n) (st :: sts) p' :: hs) ((c, i, ts) :: l)
section
variable {X : Cx} {D : Ends} {Wo : WX}
/-- what the catching frame knows of the exception at a -/
structure Got (X : Cx) (pins : List (Addr × Obj)) (σ : L2.St) (H : Hp) (a : Addr) (cls : Value) (d : Option Addr) (B : Heap) (sI s' : Shared) (h : Heap) : Prop where
  J : Inv X pins σ H sI
  nb : ∀ b o, sI.heap.get? b = some o → b ∉ frs X.stack → B.get? b = some o
  up : sI.heap.UpToSlots h
  fl : HandSPX.FlyingZ B (X.env :: X.outer) a (Zc cls d) h
  na : H a = none
  os : s'.os = sI.os
  ag : AllBare s'.gens
  nL : a ≠ X.env.locals
  nF : a ∉ X.fs
theorem named_run {pins : List (Addr × Obj)} {σ : L2.St} {H : Hp} {a : Addr} {cls : Value} {d : Option Addr} {B : Heap} {sI s' : Shared} {h : Heap}
    (hst : X.stack = X.env :: X.outer) (hfm : X.env.frame = some X.env.locals) (hN : X.N.Nodup) (tk : Takes X Wo) (ok : X.Ok)
    (G : Got X pins σ H a cls d B sI s' h) : ∀ {hs : List ExceptHandler} {l : List Clause}, Named X hs l → wNamed X.K Wo D l cls d σ H →
    wpAny (model X.prog X.w) X.A (handleBy (.ref a) X.env hs) (SP X pins D) X.xe { s' with heap := h } := by
  intro hs l nmd
  have J3 : Inv X pins σ H { s' with heap := h } := G.J.landed G.nb G.fl.1 G.up G.os G.ag
  induction nmd with
  | none =>
    intro w
    refine wpAny_handleBy_nil ?_
    obtain ⟨_, _, _, oe, vs, T, oT, us, he, hz, hd, h1, _⟩ := id G.fl
    unfold PySem.passOn
    have nz : ¬ ((Value.ref T == Value.none) = true) := by simp
    have out : wpAny (model X.prog X.w) X.A (setFlight (.ref a) X.env.frame)
        (fun _ s4 => wpAny (model X.prog X.w) X.A (throw (.ref a) : Sem Flow) (SP X pins D) X.xe s4) X.xe { s' with heap := h } := by
      rw [hfm]
      refine HandSPX.setFlight_upZ G.fl fun h4 held up4 => wpAny_throw (tk _ _ ?_)
      have sky : Sky B X.stack a (Zc cls d) X.env.locals h4 := .inr (.inr (by rw [hst]; exact held))
      exact ⟨a, B, sI, pins, σ, H, cls, d, rfl, G.J, G.nb, G.up.trans up4, sky, G.na, G.os, G.ag, w⟩
    refine wpAny_bind (wpAny_field he hd h1 ?_)
    rw [if_neg nz]
    first | exact wpAny_bind (wpAny_pure (wpAny_bind out)) | exact wpAny_bind out
  | @more x n c i ts st sts p p' hs2 l2 nm at_i loc su rest ih =>
    rintro ⟨b, hb, yes, no⟩
    obtain ⟨oe, vs, he, hz, hd⟩ := G.fl.there
    have S3 := J3.suite he hd G.na G.nL G.nF
    have typ : PySem.W.Looks (model X.prog X.w) h (typeOf (.ref a)) cls := fun A Q E s k q => wpAny_typeOf_ref (k _ _ he) (by rw [hz.1]; exact q)
    have look := PySem.W.exm_one (M := model X.prog X.w) J3.kIn typ hb
    refine wpAny_handleBy_cons (codeAny_handlers_test ?_) (by intro q; cases q)
    have name : ∀ {Q : Value → Shared → Prop} {E : Value → Shared → Prop}, Q c { s' with heap := h } →
        wpAny (model X.prog X.w) (X.A.mark (some (.ref a))) (eval (.Name x p) X.env) Q E { s' with heap := h } := by
      intro Q E q
      obtain ⟨g1, g2, g3 | ⟨g3, g4, g5⟩⟩ := nm
      · exact ld_glob (X := X.suite a ((a, oe) :: (X.pn ++ pins))) S3 g1 g3 q g2
      · exact ld_blt (X := X.suite a ((a, oe) :: (X.pn ++ pins))) S3 g1 g3 g4 q g5 g2
    refine name (look.here ?_)
    cases b with
    | false =>
      show wpAny _ X.A (handleBy (.ref a) X.env hs2) _ _ _
      exact ih (no rfl)
    | true =>
      refine codeAny_handlers_suite_as (HandSPX.lands_againZ G.fl fun h4 fl4 up4 => ?_)
      have J4 : Inv X pins σ H { s' with heap := h4 } := G.J.landed G.nb fl4.1 (G.up.trans up4) G.os G.ag
      obtain ⟨oe4, vs4, he4, hz4, hd4⟩ := fl4.there
      have S4 := J4.suite he4 hd4 G.na G.nL G.nF
      refine store_ok (X := X.suite a ((a, oe4) :: (X.pn ++ pins))) (v := .ref a) S4 hN at_i (.inl loc) rfl (fun s5 S5 => ?_) (.inr loc)
      refine wpAny_mono ((su a oe4 cls d (X.pn ++ pins) hz4 ⟨_, hd4⟩).run [] s5 _ H (unb i D) S5 (yes rfl a G.na)) (fun f s6 done => ?_) (fun _ _ z => False.elim z)
      have behind : ∀ {σ6 : L2.St} {H6 : Hp} {Q : Shared → Prop}, Inv (X.suite a ((a, oe4) :: (X.pn ++ pins))) [] σ6 H6 s6 → (∀ s7, Inv X pins (σ6.set i none) H6 s7 → Q s7) →
          wpAny (model X.prog X.w) X.A (do bindName X.env n .none; unbindBehindTheSuite X.env n p') (fun _ s7 => Q s7) X.xe s6 :=
        fun {σ6 H6 Q} S6 hq => gone_ok (S6.unsuite ok) hN at_i loc hq
      cases f with
      | ret u => obtain ⟨v6, σ6, H6, S6, r6, q6⟩ := done; exact behind S6 fun s7 J7 => ⟨_, _, _, J7, r6, q6⟩
      | next => obtain ⟨σ6, H6, S6, q6⟩ := done; exact behind S6 fun s7 J7 => ⟨_, _, J7, q6⟩
      | brk => obtain ⟨σ6, H6, S6, q6⟩ := done; exact behind S6 fun s7 J7 => ⟨_, _, J7, q6⟩
      | cont => obtain ⟨σ6, H6, S6, q6⟩ := done; exact behind S6 fun s7 J7 => ⟨_, _, J7, q6⟩
variable {body : List Stmt} {hd0 : ExceptHandler} {hds : List ExceptHandler} {l : List Clause} {pos : Pos} {tb : WX → TS}
theorem ps_try_named (hst : X.stack = X.env :: X.outer) (hfm : X.env.frame = some X.env.locals) (hN : X.N.Nodup) (tk : Takes X Wo)
    (hb : ∀ (W : WX) (pn : List (Addr × Obj)) (xe : Value → Shared → Prop), Takes (X.tr pn xe) W → PassesOwn (model X.prog X.w) X.A X.env xe → PSs (X.tr pn xe) body (tb W))
    (hh : Named X (hd0 :: hds) l) : PS X (.Try body (hd0 :: hds) [] [] pos) (fun D σ H => tb (wNamed X.K Wo D l) D σ H) := by
  refine ⟨fun pins s σ H D I q0 => wpAny_Try_except ?_⟩
  have ok := I.ok
  have hfr : X.A.frames = some (X.env :: X.outer) := by rw [ok.frames, hst]
  let xe : Value → Shared → Prop := fun e s₁ => wpAny (model X.prog X.w) X.A (noteFrame e X.env)
    (fun _ s₂ => wpAny (model X.prog X.w) X.A (setFlight e none) (fun _ s₃ => wpAny (model X.prog X.w) X.A (handleBy e X.env (hd0 :: hds)) (SP X pins D) X.xe s₃) X.xe s₂) X.xe s₁
  have takes : Takes (X.tr (X.pn ++ pins) xe) (wNamed X.K Wo D l) := by
    rintro u s' ⟨a, B, sI, pins', σ', H', cls, d, rfl, J', nb, up, sky, na, os, ag, w⟩
    have J : Inv X pins σ' H' sI := J'.ofTry ok
    have sky' : Sky B (X.env :: X.outer) a (Zc cls d) X.env.locals s'.heap := by rw [← hst]; exact sky
    show wpAny (model X.prog X.w) X.A (noteFrame (.ref a) X.env) _ _ _
    refine Sky.land Zc.steady hfr hfm sky' fun h3 fl3 up3 => ?_
    obtain ⟨oe3, vs3, he3, _, hd3⟩ := fl3.there
    have far : a ∉ frs (X.env :: X.outer) := fun hm => by
      obtain ⟨_, o', e', hnf⟩ := fl3.2.2.1.mem hm
      rw [he3] at e'
      cases e'
      exact hnf _ hd3
    refine named_run hst hfm hN tk ok ⟨J, nb, up.trans up3, fl3, na, os, ag, fun z => ?_, fun hm => ?_⟩ hh w
    · exact far (List.mem_filterMap.mpr ⟨X.env, List.mem_cons_self, by rw [hfm, z]⟩)
    · obtain ⟨e, he, q⟩ := List.mem_filterMap.mp hm
      exact far (List.mem_filterMap.mpr ⟨e, List.mem_cons_of_mem _ he, q⟩)
  refine wpAny_mono ((hb _ (X.pn ++ pins) xe takes PassesOwn.looking).run [] s σ H D (I.toTry _) q0) (fun f s1 done => ?_) (fun _ _ z => z)
  cases f with
  | ret u => obtain ⟨v, σ', H', J', r, q⟩ := done; exact ⟨v, σ', H', J'.ofTry ok, r, q⟩
  | next => obtain ⟨σ', H', J', q⟩ := done; exact wpAny_execs_nil ⟨σ', H', J'.ofTry ok, q⟩
  | brk => obtain ⟨σ', H', J', q⟩ := done; exact ⟨σ', H', J'.ofTry ok, q⟩
  | cont => obtain ⟨σ', H', J', q⟩ := done; exact ⟨σ', H', J'.ofTry ok, q⟩
end
end Dw

namespace Dw
open PySem PySem.Spec PyProof.Rows L2 SX
/-! own exceptions with one field -/
def sp_init (C : Addr) (f : Str) : Sp := fun vs H Q _ => ∃ (a : Addr) (v : V), vs = [.ref a, v] ∧ H a = some (exo a C none) ∧ ∀ dx, H dx = none → dx ≠ a → Q .non (upd (upd H dx (exd dx [(f, v)])) a (exo a C (some dx)))
/-- a class of own exceptions whose __init__ stores its one argument -/
structure ExF (P : Program) (w : World) (K : PySem.W.Frag) (mg : Str → Option Value) (base : Heap) (x : Str) (C : Addr) (f : Str) : Prop where
  T : OexC K C
  g : mg x = some (.ref C)
  xf : XfC K C
  nof : PySem.W.findIn K (.ref C) f = some none
  ini : ∃ (fI : Addr) (fd : FuncData), PySem.W.findIn K (.ref C) "__init__" = some (some (.ref fI)) ∧ PySem.W.typeIn K (.ref fI) = some (.type "function") ∧ FnOk P w K mg base C8.CX0 1 fI fd ["self", f] (sp_init C f) ∧ Binds K fd ["self", f] []
section
variable {X : Cx} {x f : Str} {C : Addr} {k : Nat} {e : Expr} {ta : TA} {p pos : Pos}
theorem pmk_ex (F : ExF X.prog X.w X.K X.mg X.base x C f) (hr : Room k X.A) (hk : 2 ≤ k) (hg : Gl X x) (ha : PA X [e] ta)
    (hdb : (x == ("__debug__" : Str)) = false := by decide) (he : starEach (e :: []) X.env = (false, eval e X.env) :: starEach [] X.env := by rfl) (hpl : (backTo pos (starEach [] X.env)).any (·.1) = false := by rfl) :
    PMk X (.Call (.Name x p) [e] [] pos) (tMkO C (sp_init C f) [] ta) := by
  obtain ⟨fI, fd, h1, h2, h3, h4⟩ := F.ini
  exact pmk_oex F.T h1 h2 h3 (hr.mono hk) h4 .nil C8.pass0 hg F.g ha hdb he hpl
end
theorem raise_ok {C : Addr} {f : Str} {v : V} {H : Hp} {E : XK} (ok : ∀ d H', Same H H' → H d = none → H' d = some (.xd [(f, v)]) → E (.ref C) (some d) H') {a : Addr} (ha : H a = none) :
    sp_init C f [.ref a, v] (upd H a (exo a C none)) (fun v H2 => v = .non ∧ ∃ (d : Addr) (fs : List (Str × V)), H2 a = some (exo a C (some d)) ∧ H2 d = some (exd d fs) ∧ H d = none ∧ E (.ref C) (some d) (upd (del H2 a) d (.xd fs))) (fun _ _ _ => False) := by
  refine ⟨a, v, rfl, upd_same, fun dx hd hne => ⟨rfl, dx, [(f, v)], upd_same, ?_, ?_, ?_⟩⟩
  · rw [upd_ne hne, upd_same]
  · rw [upd_ne hne] at hd
    exact hd
  · have hd0 : H dx = none := by
      rw [upd_ne hne] at hd
      exact hd
    refine ok dx _ (fun b o hb => ?_) hd0 upd_same
    have h1 : b ≠ dx := ne_of_none hb hd0
    have h2 : b ≠ a := ne_of_none hb ha
    rw [upd_ne h1, del_ne h2, upd_ne h2, upd_ne h1, upd_ne h2]
    exact hb
theorem exm_of {K : PySem.W.Frag} {S C : Addr} {b : Bool} (h1 : PySem.W.subIn K (.ref C) (.type "BaseException") = some true) (h2 : PySem.W.isClsIn K C = true) (h3 : PySem.W.typeIn K (.ref C) = some (.type "type")) (h4 : PySem.W.subIn K (.ref S) (.ref C) = some b) :
    PySem.W.exmOne K (.ref S) (.ref C) = some b := by
  have e1 : (PySem.W.subIn K (.ref C) (.type "BaseException") == some true) = true := by rw [h1]; rfl
  have h2' : (PySem.W.clsIn K C).isSome = true := h2
  have e2 : ((PySem.W.clsIn K C).isSome && PySem.W.typeIn K (.ref C) == some (.type "type")) = true := by
    rw [h2', h3]; rfl
  unfold PySem.W.exmOne
  rw [if_pos e1]
  unfold PySem.W.kitCls
  first
    | rw [if_pos e2, h4]
    | simp only [e2, h4, if_true]
/-! defs that may raise -/
structure CalX (P : Program) (w : World) (K : PySem.W.Frag) (mg : Str → Option Value) (base : Heap) (k : Nat) (x : Str) (sp : Sp) : Prop where
  ex : ∃ (f : Addr) (fd : FuncData) (ps : List Str), FnOk P w K mg base (L2.CX P w) k f fd ps sp ∧ mg x = some (.ref f) ∧ PySem.W.keepIn K (.ref f) = true ∧ Binds K fd ps []
section
variable {P : Program} {w : World} {K : PySem.W.Frag} {mg : Str → Option Value} {base : Heap}
theorem calX0 {x : Str} {st : Stmt} {f : Addr} {fd : FuncData} {N ps : List Str} {k : Nat} {sp : Sp} (F : C8.Def K mg x st f fd) (b : Binds K fd ps []) (S : FnScope N ps (C8.fnScope st)) (len : ∀ vs H Q E, sp vs H Q E → vs.length = ps.length)
    (hbody : ∀ (cdv : Value) (A : Around) (outer : List Env) (s : Shared) (H : Hp) (vs : List V) (Q : VK) (E : XK), Room k (A.deeper (envOfC x (C8.fnScope st) s.heap.objs.size f cdv)) → sp vs H Q E →
      ∃ t, PSs (cxOf (L2.CX P w) P w K mg base N x (C8.fnScope st) f cdv A outer s H E) (C8.fnBody st) t ∧ t { nx := fun _ H' => Q .non H', rt := Q } (start N vs) H) : CalX P w K mg base (k + 1) x sp := by
  refine ⟨f, fd, ps, ?_, F.mgf, F.kp, b⟩
  obtain ⟨oc, od, dV, kV, doc, pm, an, cdv, ct, osl, rfl, lk, hcd⟩ := F.fn.ex
  exact fn_of lk hcd S len fun A outer s H vs Q E hr hsp => hbody cdv A outer s H vs Q E hr hsp
end
section
variable {X : Cx} {k j : Nat} {x : Str} {sp : Sp} {p pos : Pos} {e : Expr} {es : List Expr} {t : TA}
/-- its call in a def that lets the same out -/
theorem pe_cx {E : XK} (c : CalX X.prog X.w X.K X.mg X.base k x sp) (hr : Room j X.A) (hk : k ≤ j) (hx : Passes (L2.CX X.prog X.w) X E) (hg : Gl X x) (ha : PA X (e :: es) t)
    (hdb : (x == ("__debug__" : Str)) = false := by decide) (he : starEach (e :: es) X.env = (false, eval e X.env) :: starEach es X.env := by rfl) (hpl : (backTo pos (starEach es X.env)).any (·.1) = false := by rfl) :
    PE X (.Call (.Name x p) (e :: es) [] pos) (tCall sp [] E t) := by
  obtain ⟨f, fd, ps, F, hm, kp, b⟩ := c.ex
  exact pe_call F (hr.mono hk) hg hm kp b .nil hx ha hdb he hpl
/-- its call in a try -/
theorem pe_cs {W : WX} (c : CalX X.prog X.w X.K X.mg X.base k x sp) (hr : Room j X.A) (hk : k ≤ j) (tk : Takes X W) (hg : Gl X x) (ha : PA X (e :: es) t)
    (hdb : (x == ("__debug__" : Str)) = false := by decide) (he : starEach (e :: es) X.env = (false, eval e X.env) :: starEach es X.env := by rfl) (hpl : (backTo pos (starEach es X.env)).any (·.1) = false := by rfl) :
    PE X (.Call (.Name x p) (e :: es) [] pos) (tCallS sp (WE W) t) := by
  obtain ⟨f, fd, ps, F, hm, kp, b⟩ := c.ex
  exact pe_callS F (hr.mono hk) hg hm kp b (fun σ => passAt tk σ) ha hdb he hpl
end
end Dw
namespace Dw
open PySem PySem.Spec PyProof.Rows L2 SX
/-- an own error of class C with this field is let out -/
def Rz (C : Addr) (f : Str) (v : V) (H : Hp) (E : XK) : Prop := ∀ d H', Same H H' → H d = none → H' d = some (.xd [(f, v)]) → E (.ref C) (some d) H'
theorem Rz.same {C : Addr} {f : Str} {v : V} {H H1 : Hp} {E : XK} (h : Rz C f v H E) (e : Same H H1) : Rz C f v H1 E := fun d H' s n x => h d H' (e.trans s) (e.free n) x
theorem raise_rz {C : Addr} {f : Str} {v : V} {H : Hp} {E : XK} (ok : Rz C f v H E) {a : Addr} (ha : H a = none) :
    sp_init C f [.ref a, v] (upd H a (exo a C none)) (fun v H2 => v = .non ∧ ∃ d : Addr, H2 a = some (exo a C (some d)) ∧ ∃ fs : List (Str × V), H2 d = some (exd d fs) ∧ H d = none ∧ E (.ref C) (some d) (upd (del H2 a) d (.xd fs))) (fun _ _ _ => False) := by
  obtain ⟨a1, v1, h1, h2, h3⟩ := raise_ok ok ha
  refine ⟨a1, v1, h1, h2, fun dx hd hne => ?_⟩
  obtain ⟨h4, d, fs, h5, h6, h7, h8⟩ := h3 dx hd hne
  exact ⟨h4, d, h5, fs, h6, h7, h8⟩
theorem hdIn_app {ch a b : List Nat} (h : hdIn ch a = true) : hdIn ch (a ++ b) = true := by
  cases a with
  | nil => cases h
  | cons c r => exact h
theorem hdIn_no {ch ch' a b : List Nat} (h : hdIn ch a = true) (d : ∀ c ∈ ch, c ∉ ch') : hdIn ch' (a ++ b) = false := by
  cases a with
  | nil => cases h
  | cons c r => exact decide_eq_false (d c (of_decide_eq_true h))
end Dw
namespace Dw
open PySem PySem.Spec PyProof.Rows L2 SX
theorem badc_ok : ∀ c ∈ BADC, c ∉ LOW ∧ c ∉ UPP ∧ c ∉ DIG ∧ c ≠ 32 ∧ c ≠ 10 ∧ ∀ s ∈ SGN, s.head? = some c → s = [33, 61] := by decide +kernel
theorem ul_no : ∀ c ∈ UPP, c ∉ LOW ++ DIG := by decide +kernel
theorem lu_no : ∀ c ∈ LOW, c ∉ UPP ++ DIG := by decide +kernel
theorem lud_no : ∀ c ∈ LOW ++ UPP, c ∉ DIG := by decide +kernel
theorem bad_hd {l : List Nat} (h : Bad l) : ∃ c r, l = c :: r ∧ c ≠ 32 ∧ c ≠ 10 := by
  have pick : ∀ {ch a : List Nat}, hdIn ch a = true → ∃ c r, a = c :: r ∧ c ∈ ch := fun {ch a} h => by
    cases a with
    | nil => cases h
    | cons c r => exact ⟨c, r, rfl, of_decide_eq_true h⟩
  cases h with
  | char h => exact ⟨_, [], rfl, (badc_ok _ h).2.2.2.1, (badc_ok _ h).2.2.2.2.1⟩
  | longN h0 h1 h2 h3 => obtain ⟨c, r, e, hc⟩ := pick h0; exact ⟨c, r, e, low_ok c hc⟩
  | longW h0 h1 h2 h3 => obtain ⟨c, r, e, hc⟩ := pick h0; exact ⟨c, r, e, (upp_ok c hc).2⟩
  | mixN h0 h1 h2 h3 h4 h5 => obtain ⟨c, r, e, hc⟩ := pick h0; exact ⟨c, _, by rw [e]; rfl, low_ok c hc⟩
  | mixW h0 h1 h2 h3 h4 h5 => obtain ⟨c, r, e, hc⟩ := pick h0; exact ⟨c, _, by rw [e]; rfl, (upp_ok c hc).2⟩
  | zeros h0 h1 h2 h3 =>
    cases l with
    | nil => cases h0
    | cons c r => exact ⟨c, r, rfl, (dig_ok c (h1 c List.mem_cons_self)).2.2⟩
  | big h0 h1 h2 n h3 h4 =>
    obtain ⟨c, r, e⟩ := cons_of h0
    exact ⟨c, r, e, (dig_ok c (h1 c (by rw [e]; exact List.mem_cons_self))).2.2⟩
  | letr h0 h1 h2 h3 h4 h5 =>
    obtain ⟨c, r, e⟩ := cons_of h0
    exact ⟨c, _, by rw [e]; rfl, (dig_ok c (h1 c (by rw [e]; exact List.mem_cons_self))).2.2⟩
theorem bad_len {l : List Nat} (h : Bad l) : l.length ≤ 30 := by
  cases h with
  | char h => exact (show 1 ≤ 30 by decide)
  | longN h0 h1 h2 h3 => omega
  | longW h0 h1 h2 h3 => omega
  | mixN h0 h1 h2 h3 h4 h5 => rw [List.length_append]; omega
  | mixW h0 h1 h2 h3 h4 h5 => rw [List.length_append]; omega
  | zeros h0 h1 h2 h3 => exact h3
  | big h0 h1 h2 n h3 h4 => exact h2
  | letr h0 h1 h2 h3 h4 h5 => rw [List.length_append]; omega
theorem char_no {c : Nat} {rest : List Nat} (h : c ∈ BADC) (h61 : hdIn [61] rest = false) : ∀ s ∈ SGN, pfx s ([c] ++ rest) = false := by
  intro s hs
  cases hp : pfx s ([c] ++ rest) with
  | false => rfl
  | true =>
    exfalso
    obtain ⟨r, hr⟩ := pfx_iff.mp hp
    obtain ⟨c', s', e⟩ := cons_of (sgn_ok s hs).1
    rw [e] at hr
    have hc : c = c' := (List.cons.inj hr).1
    have := (badc_ok c h).2.2.2.2.2 s hs (by rw [e, hc]; rfl)
    rw [this] at e
    obtain ⟨e1, e2⟩ := List.cons.inj e
    have h2 : rest = s' ++ r := (List.cons.inj hr).2
    rw [← e2] at h2
    rw [h2] at h61
    have h3 : hdIn [61] ([61] ++ r) = true := by
      show decide (61 ∈ [61]) = true
      decide
    rw [h3] at h61
    cases h61
end Dw
namespace Dw
open PySem PySem.Spec PyProof.Rows L2 SX
def GoodsT (tl : List Nat) : List Itm → Prop
  | [] => True
  | x :: r => Piece x.l x.k x.v ∧ Blank x.sp ∧ After x.l (x.sp ++ (iflat r ++ tl)) ∧ GoodsT tl r
theorem GoodsT.append {tl : List Nat} : ∀ {a b : List Itm}, GoodsT tl (a ++ b) → GoodsT tl b
  | [], _, h => h
  | _ :: a, _, h => GoodsT.append (a := a) h.2.2.2
end Dw

namespace Dw
open PySem PySem.Spec PyProof.Rows L2 SX
theorem fold_rep (c : Nat) : ∀ (n : Nat) (a : Array Nat), (List.replicate n #[c]).foldl (· ++ ·) a = a ++ (List.replicate n c).toArray
  | 0, a => by simp
  | n + 1, a => by
    rw [List.replicate_succ, List.foldl_cons, fold_rep c n, List.replicate_succ, Array.append_assoc]
    congr 1
    simp
theorem mul_S (c n : Nat) : Txt.mul (S [c]) ((n : Nat) : Int) = S (List.replicate n c) := by
  unfold Txt.mul
  by_cases h : n = 0
  · subst h
    rfl
  · rw [if_neg (by omega)]
    by_cases h1 : n = 1
    · subst h1
      rfl
    · have e : (((n : Nat) : Int) == 1 || (S [c]).length == 0) = false := by
        rw [len_S]
        simp
        omega
      rw [if_neg (by rw [e]; exact Bool.false_ne_true), Int.toNat_natCast]
      show (⟨(List.replicate n #[c]).foldl (· ++ ·) #[]⟩ : Str) = ⟨(List.replicate n c).toArray⟩
      rw [fold_rep]
      simp
theorem mulOk_S (c n : Nat) (h : n ≤ 10000) : MulOk (S [c]) ((n : Nat) : Int) := mulOk_of 1 10000 (by rw [len_S]; exact Nat.le_refl 1) (by omega) (by omega) (by decide) (by decide)
theorem num_eq (n : Nat) : num n = TL.numL n := TL.tl_num n
theorem dig_in : ∀ c : Nat, 48 ≤ c → c ≤ 57 → c ∈ DIG := by
  intro c h1 h2
  have : ∀ k : Fin 10, 48 + k.val ∈ DIG := by decide +kernel
  have := this ⟨c - 48, by omega⟩
  rw [show 48 + (c - 48) = c by omega] at this
  exact this
theorem num_big {n : Nat} (h : n < 10 ^ 9) : num n ≠ [] ∧ (∀ c ∈ num n, c ∈ DIG) ∧ (num n).length ≤ 9 ∧ intText? (S (num n)) = some (n : Int) := by
  have h1 : (TL.numL n).length ≤ 9 := TL.numL_len (by decide) h
  refine ⟨?_, ?_, ?_, ?_⟩
  · rw [num_eq]; exact TL.numL_ne n
  · intro c hc
    rw [num_eq] at hc
    have := TL.numL_digits n c hc
    exact dig_in c this.1 this.2
  · rw [num_eq]; exact h1
  · rw [num_eq, ← num_S]
    exact TL.int_num (by omega)
theorem log_small {n : Nat} (h : n < 10 ^ 9) : ((n : Nat) : Int).natAbs.log2 < 1920 := by
  rw [Int.natAbs_natCast]
  by_cases h0 : n = 0
  · subst h0; decide
  · exact Nat.lt_of_lt_of_le ((Nat.log2_lt h0).mpr (show n < 2 ^ 30 by omega)) (by decide)
theorem lu_up : ∀ s ∈ ["a", "x9", "Z", "all"], hdIn (LOW ++ UPP) (cs s) = true ∧ (cs s).length ≤ 10 ∧ ∀ c ∈ cs s, isAN c = true := by decide +kernel
theorem mixed_bad : Bad (cs "aB") ∧ Bad (cs "Ab") ∧ Bad (cs "x1Y") ∧ Bad (cs "TX0y") := by
  refine ⟨.mixN (a := cs "a") (b := cs "B") ?_ ?_ ?_ ?_ ?_ ?_, .mixW (a := cs "A") (b := cs "b") ?_ ?_ ?_ ?_ ?_ ?_, .mixN (a := cs "x1") (b := cs "Y") ?_ ?_ ?_ ?_ ?_ ?_, .mixW (a := cs "TX0") (b := cs "y") ?_ ?_ ?_ ?_ ?_ ?_⟩ <;> decide +kernel
theorem long_bad {k : Nat} (h1 : 12 ≤ k) (h2 : k ≤ 16) : Bad (cs "a" ++ List.replicate k 57) ∧ Bad (cs "Z" ++ List.replicate k 57) := by
  have e1 : cs "a" = [97] := by decide +kernel
  have e2 : cs "Z" = [90] := by decide +kernel
  rw [e1, e2]
  have a1 : (97 : Nat) ∈ LOW := by decide +kernel
  have a2 : (90 : Nat) ∈ UPP := by decide +kernel
  refine ⟨.longN (show decide ((97 : Nat) ∈ LOW) = true from decide_eq_true a1) ?_ ?_ ?_, .longW (show decide ((90 : Nat) ∈ UPP) = true from decide_eq_true a2) ?_ ?_ ?_⟩
  · intro c hc
    rcases List.mem_cons.mp hc with e | e
    · rw [e]; decide +kernel
    · rw [(List.mem_replicate.mp e).2]; decide +kernel
  · simp; omega
  · simp; omega
  · intro c hc
    rcases List.mem_cons.mp hc with e | e
    · rw [e]; decide +kernel
    · rw [(List.mem_replicate.mp e).2]; decide +kernel
  · simp; omega
  · simp; omega
theorem zeros_bad {k n : Nat} (h1 : 1 ≤ k) (h2 : k ≤ 3) (hn : n < 10 ^ 9) : Bad (List.replicate k 48 ++ num n) := by
  obtain ⟨n1, n2, n3, _⟩ := num_big hn
  have hp : 0 < (num n).length := List.length_pos_iff.mpr n1
  refine .zeros ?_ ?_ ?_ ?_
  · obtain ⟨k', rfl⟩ : ∃ k', k = k' + 1 := ⟨k - 1, by omega⟩
    rfl
  · intro c hc
    rcases List.mem_append.mp hc with e | e
    · rw [(List.mem_replicate.mp e).2]; decide +kernel
    · exact n2 c e
  · rw [List.length_append, List.length_replicate]; omega
  · rw [List.length_append, List.length_replicate]; omega
theorem big_bad {n : Nat} (h : 255 < n) (hn : n < 10 ^ 9) : Bad (num n) := by
  obtain ⟨n1, n2, n3, n4⟩ := num_big hn
  exact .big n1 n2 (by omega) n n4 h
theorem letr_bad {n : Nat} (hn : n < 10 ^ 9) {s : String} (hs : s ∈ ["a", "x9", "Z", "all"]) : Bad (num n ++ cs s) := by
  obtain ⟨n1, n2, n3, _⟩ := num_big hn
  obtain ⟨s1, s2, s3⟩ := lu_up s hs
  exact .letr n1 n2 s1 (by omega) s2 s3
theorem bad_lt {l : List Nat} (h : Bad l) : l ≠ [] ∧ l.length ≤ 100 := by
  obtain ⟨c, r, e, _⟩ := bad_hd h
  exact ⟨by rw [e]; exact List.cons_ne_nil _ _, by have := bad_len h; omega⟩
end Dw

namespace Dw
open PySem PySem.Spec PyProof.Rows L2 SX
/-! sorted texts: one order alone -/
def leS (a b : Str) : Prop := ¬ (b.cps.toList < a.cps.toList)
theorem leS_trans {a b c : Str} (h1 : leS a b) (h2 : leS b c) : leS a c := List.le_trans (α := Nat) h1 h2
theorem leS_anti {a b : Str} (h1 : leS a b) (h2 : leS b a) : a = b := by
  have e : a.cps.toList = b.cps.toList := List.le_antisymm (α := Nat) h1 h2
  obtain ⟨x⟩ := a
  obtain ⟨y⟩ := b
  exact congrArg Str.mk (Array.toList_inj.mp e)
theorem rising_pw : ∀ (r : List Str) (p : Str), risingS p r = true → (p :: r).Pairwise leS
  | [], p, _ => List.pairwise_singleton _ _
  | x :: r, p, h => by
    unfold risingS at h
    rw [Bool.and_eq_true, ltCps_eq] at h
    have hx : leS p x := by
      have := h.1
      simpa [leS] using this
    have ih := rising_pw r x h.2
    refine List.pairwise_cons.mpr ⟨fun y hy => ?_, ih⟩
    rcases List.mem_cons.mp hy with e | e
    · rw [e]; exact hx
    · exact leS_trans hx ((List.pairwise_cons.mp ih).1 y e)
theorem sorted_pw : ∀ {ys : List Str}, sortedS ys = true → ys.Pairwise leS
  | [], _ => List.Pairwise.nil
  | x :: r, h => rising_pw r x h
theorem pw_sorted {ys : List Str} (h : ys.Pairwise leS) : sortedS ys = true := sortedS_of_pairwise ys (h.imp fun {a b} q => by
  rw [ltCps_eq]
  exact decide_eq_false q)
theorem sorted_one {xs ys : List Str} (p : xs.Perm ys) (h1 : sortedS xs = true) (h2 : sortedS ys = true) : xs = ys :=
  List.Perm.eq_of_pairwise (le := leS) (fun a b _ _ => leS_anti) (sorted_pw h1) (sorted_pw h2) p
open Classical in
/-- the texts in their order, where the order was found -/
noncomputable def srt (ks : List Str) : List Str := if h : ∃ ys : List Str, ys.Perm ks ∧ sortedS ys = true then h.choose else []
theorem srt_of {ks ys : List Str} (p : ys.Perm ks) (s : sortedS ys = true) : ys = srt ks := by
  have h : ∃ ys : List Str, ys.Perm ks ∧ sortedS ys = true := ⟨ys, p, s⟩
  unfold srt
  rw [dif_pos h]
  exact sorted_one (p.trans h.choose_spec.1.symm) s h.choose_spec.2
/-! sums of pairs -/
abbrev Prs := List (Str × Int)
def look (D : Prs) (z : Str) : Option Int := (D.find? fun p => decide (p.1 = z)).map (·.2)
def put (D : Prs) (z : Str) (i : Int) : Prs := if (D.any fun p => decide (p.1 = z)) = true then D.map (fun p => if p.1 = z then (p.1, i) else p) else D ++ [(z, i)]
def ent (p : Str × Int) : Key × V := (Sum.inr p.1, V.int p.2)
theorem val_ent (D : Prs) (z : Str) : valV (D.map ent) (Sum.inr z) = (look D z).map V.int := by
  unfold valV look
  rw [List.find?_map, Option.map_map, Option.map_map]
  have e : ((fun kv : Key × V => decide (kv.1 = Sum.inr z)) ∘ ent) = fun p : Str × Int => decide (p.1 = z) := by
    funext p
    simp [ent]
  rw [e]
  rfl
theorem put_ent (D : Prs) (z : Str) (i : Int) : putK (D.map ent) (Sum.inr z) (V.int i) = (put D z i).map ent := by
  unfold putK put
  rw [List.any_map]
  have e : ((fun kv : Key × V => decide (kv.1 = Sum.inr z)) ∘ ent) = fun p : Str × Int => decide (p.1 = z) := by
    funext p
    simp [ent]
  rw [e]
  split
  · rw [List.map_map, List.map_map]
    apply List.map_congr_left
    intro p _
    show (if (ent p).1 = Sum.inr z then ((ent p).1, V.int i) else ent p) = ent (if p.1 = z then (p.1, i) else p)
    by_cases h : p.1 = z
    · rw [if_pos h, if_pos (by simp [ent, h])]
      rfl
    · rw [if_neg h, if_neg (by simp [ent, h])]
  · rw [List.map_append]
    rfl
def keys (D : Prs) : List Str := D.map (·.1)
theorem put_keys (D : Prs) (z : Str) (i : Int) : keys (put D z i) = if z ∈ keys D then keys D else keys D ++ [z] := by
  unfold put keys
  have e : (D.any fun p => decide (p.1 = z)) = true ↔ z ∈ D.map (·.1) := by
    rw [List.any_eq_true, List.mem_map]
    constructor
    · rintro ⟨p, h, q⟩; exact ⟨p, h, of_decide_eq_true q⟩
    · rintro ⟨p, h, q⟩; exact ⟨p, h, decide_eq_true q⟩
  by_cases h : z ∈ D.map (·.1)
  · rw [if_pos (e.2 h), if_pos h, List.map_map]
    apply List.map_congr_left
    intro p _
    show (if p.1 = z then (p.1, i) else p).1 = p.1
    split <;> rfl
  · rw [if_neg (fun q => h (e.1 q)), if_neg h, List.map_append]
    rfl
def add1 (D : Prs) (p : Str × Int) : Prs := put D p.1 ((look D p.1).getD 0 + p.2)
def sums (ps : Prs) : Prs := ps.foldl add1 []
theorem sums_snoc (ps : Prs) (p : Str × Int) : sums (ps ++ [p]) = add1 (sums ps) p := by
  unfold sums
  rw [List.foldl_append]
  rfl
theorem add1_keys {D : Prs} {p : Str × Int} (nd : (keys D).Nodup) : (keys (add1 D p)).Nodup ∧ (∀ z, z ∈ keys (add1 D p) ↔ z ∈ keys D ∨ z = p.1) ∧ (add1 D p).length ≤ D.length + 1 := by
  have hk := put_keys D p.1 ((look D p.1).getD 0 + p.2)
  have hl : (add1 D p).length = (keys (add1 D p)).length := by simp [keys]
  have hl2 : D.length = (keys D).length := by simp [keys]
  rw [hl, hl2]
  unfold add1
  rw [hk]
  by_cases h : p.1 ∈ keys D
  · rw [if_pos h]
    exact ⟨nd, fun z => ⟨.inl, fun q => q.elim id (fun e => e ▸ h)⟩, Nat.le_succ _⟩
  · rw [if_neg h]
    refine ⟨?_, fun z => ?_, ?_⟩
    · rw [List.nodup_append]
      refine ⟨nd, by simp, fun a ha b hb e => ?_⟩
      rw [List.mem_singleton.mp hb] at e
      exact h (e ▸ ha)
    · rw [List.mem_append, List.mem_singleton]
    · rw [List.length_append]; exact Nat.le_refl _
theorem fold_keys : ∀ (ps D : Prs), (keys D).Nodup → (keys (ps.foldl add1 D)).Nodup ∧ (∀ z, z ∈ keys (ps.foldl add1 D) ↔ z ∈ keys D ∨ z ∈ keys ps) ∧ (ps.foldl add1 D).length ≤ D.length + ps.length
  | [], D, nd => ⟨nd, fun z => by simp [keys], Nat.le_refl _⟩
  | p :: ps, D, nd => by
    obtain ⟨h1, h2, h3⟩ := add1_keys (p := p) nd
    obtain ⟨k1, k2, k3⟩ := fold_keys ps (add1 D p) h1
    refine ⟨k1, fun z => ?_, ?_⟩
    · rw [List.foldl_cons, k2, h2]
      show (z ∈ keys D ∨ z = p.1) ∨ z ∈ keys ps ↔ z ∈ keys D ∨ z ∈ p.1 :: keys ps
      rw [List.mem_cons, or_assoc]
    · rw [List.foldl_cons, List.length_cons]
      omega
theorem sums_keys (ps : Prs) : (keys (sums ps)).Nodup ∧ (∀ z, z ∈ keys (sums ps) ↔ z ∈ keys ps) ∧ (sums ps).length ≤ ps.length := by
  obtain ⟨h1, h2, h3⟩ := fold_keys ps [] List.nodup_nil
  refine ⟨h1, fun z => ?_, by simpa [sums] using h3⟩
  unfold sums
  rw [h2]
  simp [keys]
noncomputable def lin (ps : Prs) : Prs := ((srt (keys (sums ps))).map fun z => (z, (look (sums ps) z).getD 0)).filter fun p => decide (p.2 ≠ 0)
def okC (c : Int) : Bool := decide (-255 ≤ c) && decide (c ≤ 255)
noncomputable def linOk (ps : Prs) (c : Int) : Bool := (c :: (lin ps).map (·.2)).all okC
theorem look_some {D : Prs} {z : Str} (h : z ∈ keys D) : ∃ i, look D z = some i := by
  obtain ⟨p, hp, e⟩ := List.mem_map.mp h
  unfold look
  cases q : D.find? fun p => decide (p.1 = z) with
  | some x => exact ⟨x.2, rfl⟩
  | none =>
    have := List.find?_eq_none.mp q p hp
    simp [e] at this
end Dw

namespace Dw
open PySem PySem.Spec PyProof.Rows L2 SX
theorem hu1 {A : Around} {k : Nat} (hr : Room k A) : A.units + 1 < cLine := by
  have := hr.units
  omega
section
variable {X : Cx} (K : PySem.W.Frag)
theorem allK (hc : X.calm = true := by rfl) (h : X.K = K := by rfl) : CallR X (.builtin "all") (rAll K) := h ▸ cr_all hc
end
theorem getD_int (o : Option Int) (d : Int) : (o.map V.int).getD (V.int d) = V.int (o.getD d) := by cases o <;> rfl
/-! pairs as they stand -/
def PrsAt (H : Hp) : List Addr → Prs → Prop
  | [], [] => True
  | a :: as, p :: ps => H a = some (.tup [.str p.1, .int p.2]) ∧ PrsAt H as ps
  | _, _ => False
theorem PrsAt.same {H H' : Hp} (e : Same H H') : ∀ {as : List Addr} {ps : Prs}, PrsAt H as ps → PrsAt H' as ps
  | [], [], _ => trivial
  | _ :: _, _ :: _, h => ⟨e _ _ h.1, PrsAt.same e h.2⟩
  | [], _ :: _, h => h.elim
  | _ :: _, [], h => h.elim
theorem PrsAt.len {H : Hp} : ∀ {as : List Addr} {ps : Prs}, PrsAt H as ps → as.length = ps.length
  | [], [], _ => rfl
  | _ :: as, _ :: ps, h => congrArg (· + 1) (PrsAt.len (as := as) (ps := ps) h.2)
  | [], _ :: _, h => h.elim
  | _ :: _, [], h => h.elim
theorem PrsAt.append {H : Hp} : ∀ {as bs : List Addr} {ps qs : Prs}, PrsAt H as ps → PrsAt H bs qs → PrsAt H (as ++ bs) (ps ++ qs)
  | [], _, [], _, _, h => h
  | _ :: _, _, _ :: _, _, h, k => ⟨h.1, PrsAt.append h.2 k⟩
  | [], _, _ :: _, _, h, _ => h.elim
  | _ :: _, _, [], _, h, _ => h.elim
theorem PrsAt.snoc {H : Hp} {as : List Addr} {ps : Prs} {a : Addr} {p : Str × Int} (h : PrsAt H as ps) (e : H a = some (.tup [.str p.1, .int p.2])) : PrsAt H (as ++ [a]) (ps ++ [p]) := h.append ⟨e, trivial⟩
theorem PrsAt.get {H : Hp} : ∀ {as : List Addr} {ps : Prs} {i : Nat} {p : Str × Int}, PrsAt H as ps → ps[i]? = some p → ∃ a, as[i]? = some a ∧ H a = some (.tup [.str p.1, .int p.2])
  | [], [], _, _, _, e => by simp at e
  | a :: as, q :: ps, 0, p, h, e => by
    obtain rfl := Option.some.inj e
    exact ⟨a, rfl, h.1⟩
  | a :: as, q :: ps, i + 1, p, h, e => PrsAt.get (as := as) (ps := ps) (i := i) h.2 (by simpa using e)
  | [], _ :: _, _, _, h, _ => h.elim
  | _ :: _, [], _, _, h, _ => h.elim
theorem PrsAt.at {H : Hp} {as : List Addr} {ps : Prs} {i : Nat} {v : V} (h : PrsAt H as ps) (e : (as.map V.ref)[i]? = some v) : ∃ a p, as[i]? = some a ∧ v = .ref a ∧ ps[i]? = some p ∧ H a = some (.tup [.str p.1, .int p.2]) := by
  rw [List.getElem?_map] at e
  obtain ⟨a, ha, rfl⟩ := Option.map_eq_some_iff.mp e
  have hl := h.len
  have hi : i < ps.length := by
    have := (List.getElem?_eq_some_iff.mp ha).1
    omega
  obtain ⟨a2, h2, h3⟩ := h.get (List.getElem?_eq_getElem hi)
  rw [ha] at h2
  obtain rfl := Option.some.inj h2
  exact ⟨a, _, ha, rfl, List.getElem?_eq_getElem hi, h3⟩
theorem PrsAt.keep {H H' : Hp} {g : Addr} (e2 : ∀ x y, H g ≠ some (.tup [.str x, .int y])) (e : But g H H') : ∀ {as : List Addr} {ps : Prs}, PrsAt H as ps → PrsAt H' as ps
  | [], [], _ => trivial
  | _ :: as, _ :: ps, h => ⟨e _ _ (fun q => e2 _ _ (q ▸ h.1)) h.1, PrsAt.keep e2 e (as := as) (ps := ps) h.2⟩
  | [], _ :: _, h => h.elim
  | _ :: _, [], h => h.elim
def prD (p : Str × Int) : PyData := .tuple [.str p.1, .int p.2]
theorem PrsAt.dp {K : PySem.W.Frag} {H : Hp} : ∀ {as : List Addr} {ps : Prs}, PrsAt H as ps → DpAll K H (as.map V.ref) (ps.map prD)
  | [], [], _ => .nil
  | _ :: as, _ :: ps, h => .cons (.tup (SqT.of h.1) (.cons (.str _) (.cons (.int _) .nil))) (PrsAt.dp (as := as) (ps := ps) h.2)
  | [], _ :: _, h => h.elim
  | _ :: _, [], h => h.elim
/-- names of pairs are good -/
def Good (ps : Prs) : Prop := ∀ p ∈ ps, ∃ l, GName l ∧ p.1 = S l
theorem good_lay {z : Str} (h : ∃ l, GName l ∧ z = S l) : PyData.strOk z = true := by
  obtain ⟨l, g, rfl⟩ := h
  exact ok_S fun c hc => ld_128 c (g.all c hc)
theorem prs_lay : ∀ {ps : Prs}, Good ps → PyData.canLayAll0 (ps.map prD) = true ∧ PyData.depthAll (ps.map prD) ≤ 1
  | [], _ => by simp [PyData.canLayAll0, PyData.depthAll]
  | p :: ps, h => by
    obtain ⟨h1, h2⟩ := prs_lay (ps := ps) fun q m => h q (List.mem_cons_of_mem _ m)
    have h3 := good_lay (h p List.mem_cons_self)
    refine ⟨by simp [prD, PyData.canLayAll0, PyData.canLay0, h1, h3], ?_⟩
    simp only [List.map_cons, prD, PyData.depthAll, PyData.depth]
    omega
/-- a term as it stands -/
def TermAt (H : Hp) (t : Addr) (ps : Prs) (c : Int) : Prop := ∃ (q : Addr) (as : List Addr), H t = some (.tup [.ref q, .int c]) ∧ H q = some (.tup (as.map V.ref)) ∧ PrsAt H as ps
theorem TermAt.same {H H' : Hp} {t : Addr} {ps : Prs} {c : Int} (h : TermAt H t ps c) (e : Same H H') : TermAt H' t ps c := by
  obtain ⟨q, as, h1, h2, h3⟩ := h
  exact ⟨q, as, e _ _ h1, e _ _ h2, h3.same e⟩
def tmD (ps : Prs) (c : Int) : PyData := .tuple [.tuple (ps.map prD), .int c]
theorem TermAt.dp {K : PySem.W.Frag} {H : Hp} {t : Addr} {ps : Prs} {c : Int} (h : TermAt H t ps c) : Dp K H (.ref t) (tmD ps c) := by
  obtain ⟨q, as, h1, h2, h3⟩ := h
  exact .tup (SqT.of h1) (.cons (.tup (SqT.of h2) h3.dp) (.cons (.int _) .nil))
theorem tm_shaped {ps : Prs} (h : Good ps) (c : Int) : SeqAt.shaped (tmD ps c) = true := by
  obtain ⟨h1, h2⟩ := prs_lay h
  show (PyData.canLay0 (tmD ps c) && decide (PyData.depth (tmD ps c) ≤ 64)) = true
  rw [Bool.and_eq_true]
  refine ⟨by simp [tmD, PyData.canLay0, PyData.canLayAll0, h1], decide_eq_true ?_⟩
  simp only [tmD, PyData.depth, PyData.depthAll]
  omega
theorem prs_shaped {ps : Prs} (h : Good ps) : SeqAt.shaped (.list (ps.map prD)) = true := by
  obtain ⟨h1, h2⟩ := prs_lay h
  show (PyData.canLay0 (.list (ps.map prD)) && decide (PyData.depth (.list (ps.map prD)) ≤ 64)) = true
  rw [Bool.and_eq_true]
  refine ⟨by simp [PyData.canLay0, h1], decide_eq_true ?_⟩
  simp only [PyData.depth]
  omega
theorem txt_dp {K : PySem.W.Frag} {H : Hp} : ∀ zs : List Str, DpAll K H (zs.map V.str) (zs.map PyData.str)
  | [] => .nil
  | _ :: zs => .cons (.str _) (txt_dp zs)
theorem txt_lay : ∀ zs : List Str, (∀ z ∈ zs, PyData.strOk z = true) → PyData.canLayAll0 (zs.map PyData.str) = true ∧ PyData.depthAll (zs.map PyData.str) = 0
  | [], _ => by simp [PyData.canLayAll0, PyData.depthAll]
  | z :: zs, h => by
    obtain ⟨h1, h2⟩ := txt_lay zs fun y hy => h y (List.mem_cons_of_mem _ hy)
    simp [PyData.canLayAll0, PyData.canLay0, PyData.depthAll, PyData.depth, h z List.mem_cons_self, h1, h2]
theorem txt_shaped (zs : List Str) (h : ∀ z ∈ zs, PyData.strOk z = true) : SeqAt.shaped (.list (zs.map PyData.str)) = true := by
  obtain ⟨h1, h2⟩ := txt_lay zs h
  simp [SeqAt.shaped, PyData.canLay0, PyData.depth, h1, h2]
theorem good_keys {ps : Prs} (h : Good ps) : ∀ z ∈ keys ps, PyData.strOk z = true := fun z hz => by
  obtain ⟨p, hp, rfl⟩ := List.mem_map.mp hz
  exact good_lay (h p hp)
theorem setL_perm {zs : List Str} (d : zs.Nodup) : (setL zs).Perm zs := (List.perm_ext_iff_of_nodup (setL_nodup zs) d).2 fun _ => setL_mem
end Dw

namespace Dw
open PySem PySem.Spec PyProof.Rows L2 SX
/-- what linear and the law's own sum answer: the term, or the word -/
def OVER : V := .str (S (cs "oversized"))
def Res (H : Hp) (v : V) (ps : Prs) (c : Int) : Prop := (linOk ps c = true ∧ ∃ t, v = .ref t ∧ TermAt H t (lin ps) c) ∨ (linOk ps c = false ∧ v = OVER)
theorem Res.same {H H' : Hp} {v : V} {ps : Prs} {c : Int} (h : Res H v ps c) (e : Same H H') : Res H' v ps c := by
  rcases h with ⟨a, t, b, d⟩ | h
  · exact .inl ⟨a, t, b, d.same e⟩
  · exact .inr h
theorem res_split {H : Hp} {Q : VK} {ps : Prs} {c : Int} (h : ∀ v H', Same H H' → Res H' v ps c → Q v H') :
    (linOk ps c = true → ∀ t H', Same H H' → TermAt H' t (lin ps) c → Q (.ref t) H') ∧ (linOk ps c = false → ∀ H', Same H H' → Q (.str (S (cs "oversized"))) H') :=
  ⟨fun o t H' e x => h _ H' e (.inl ⟨o, t, rfl, x⟩), fun o H' e => h _ H' e (.inr ⟨o, rfl⟩)⟩
theorem over_ok : PyData.strOk (S (cs "oversized")) = true := ok_S (kinds2_128' "oversized" (by simp))
where kinds2_128' : ∀ s ∈ (["oversized"] : List String), ∀ c ∈ cs s, c < 128 := by decide +kernel
theorem str_shaped {z : Str} (h : PyData.strOk z = true) : SeqAt.shaped (.str z) = true := by
  simp [SeqAt.shaped, PyData.canLay0, PyData.depth, h]
/-- two answers over the same pairs are equal, as data -/
theorem Res.two {K : PySem.W.Frag} {H : Hp} {v w : V} {ps : Prs} {c : Int} (h : Res H v ps c) (k : Res H w ps c) (g : Good (lin ps)) : ∃ d, Dp K H v d ∧ Dp K H w d ∧ SeqAt.shaped d = true := by
  rcases h with ⟨a, t, rfl, ht⟩ | ⟨a, rfl⟩
  · rcases k with ⟨_, u, rfl, hu⟩ | ⟨b, _⟩
    · exact ⟨_, ht.dp, hu.dp, tm_shaped g c⟩
    · rw [a] at b; cases b
  · rcases k with ⟨b, _⟩ | ⟨_, rfl⟩
    · rw [a] at b; cases b
    · exact ⟨_, .str _, .str _, str_shaped over_ok⟩
theorem srt_spec (K : List Str) : srt K = [] ∨ ((srt K).Perm K ∧ sortedS (srt K) = true) := by
  unfold srt
  split
  · rename_i h
    exact .inr h.choose_spec
  · exact .inl rfl
theorem lin_sub (ps : Prs) : (keys (lin ps)).Sublist (srt (keys (sums ps))) := by
  have h1 := (List.filter_sublist (p := fun p : Str × Int => decide (p.2 ≠ 0)) (l := (srt (keys (sums ps))).map fun z => (z, (look (sums ps) z).getD 0))).map (·.1)
  rw [List.map_map] at h1
  have e : (srt (keys (sums ps))).map ((fun x : Str × Int => x.1) ∘ fun z => (z, (look (sums ps) z).getD 0)) = srt (keys (sums ps)) := by
    show (srt (keys (sums ps))).map (fun z => z) = _
    rw [List.map_id']
  rw [e] at h1
  exact h1
theorem lin_mem {ps : Prs} {z : Str} (h : z ∈ keys (lin ps)) : z ∈ keys ps := by
  have h1 := (lin_sub ps).subset h
  rcases srt_spec (keys (sums ps)) with e | ⟨e, _⟩
  · rw [e] at h1; cases h1
  · exact ((sums_keys ps).2.1 z).1 (e.mem_iff.mp h1)
theorem lin_good {ps : Prs} (h : Good ps) : Good (lin ps) := fun p hp => by
  have h1 : p.1 ∈ keys ps := lin_mem (List.mem_map_of_mem hp)
  obtain ⟨q, hq, e⟩ := List.mem_map.mp h1
  rw [← e]
  exact h q hq
theorem lin_len (ps : Prs) : (lin ps).length ≤ ps.length := by
  have h1 := (lin_sub ps).length_le
  have h2 : (keys (lin ps)).length = (lin ps).length := by simp [keys]
  have h3 := (sums_keys ps).2.2
  have h4 : (keys (sums ps)).length = (sums ps).length := by simp [keys]
  rcases srt_spec (keys (sums ps)) with e | ⟨e, _⟩
  · rw [e] at h1
    rw [List.length_nil] at h1
    omega
  · rw [e.length_eq] at h1
    omega
theorem lin_sorted (ps : Prs) : sortedS (keys (lin ps)) = true ∧ (keys (lin ps)).Nodup := by
  rcases srt_spec (keys (sums ps)) with e | ⟨e, s⟩
  · have h1 := lin_sub ps
    rw [e] at h1
    rw [List.sublist_nil.mp h1]
    exact ⟨rfl, List.nodup_nil⟩
  · exact ⟨pw_sorted ((sorted_pw s).sublist (lin_sub ps)), (e.nodup_iff.mpr (sums_keys ps).1).sublist (lin_sub ps)⟩
theorem lin_nz {ps : Prs} {p : Str × Int} (h : p ∈ lin ps) : p.2 ≠ 0 := by
  unfold lin at h
  exact of_decide_eq_true (List.mem_filter.mp h).2
theorem linOk_of {ps : Prs} {c : Int} (h : linOk ps c = true) : okC c = true ∧ ∀ p ∈ lin ps, okC p.2 = true := by
  unfold linOk at h
  rw [List.all_cons, Bool.and_eq_true, List.all_eq_true] at h
  exact ⟨h.1, fun p hp => h.2 _ (List.mem_map_of_mem hp)⟩
theorem okC_bd {c : Int} (h : okC c = true) : -255 ≤ c ∧ c ≤ 255 := by
  simpa [okC] using h
theorem good_app {a b : Prs} (h : Good a) (k : Good b) : Good (a ++ b) := fun p hp => by
  rcases List.mem_append.mp hp with q | q
  · exact h p q
  · exact k p q
theorem good_map {a : Prs} {f : Str × Int → Str × Int} (h : Good a) (k : ∀ p, (f p).1 = p.1) : Good (a.map f) := fun p hp => by
  obtain ⟨q, hq, rfl⟩ := List.mem_map.mp hp
  rw [k]
  exact h q hq
/-- values of a table of names -/
def NamesT (kvs : List (Key × V)) : Prop := ∀ kv ∈ kvs, ∃ l, GName l ∧ kv.2 = .str (S l)
theorem putK_names {kvs : List (Key × V)} {k : Key} {l : List Nat} (h : NamesT kvs) (g : GName l) : NamesT (putK kvs k (.str (S l))) := by
  intro kv hkv
  unfold putK at hkv
  split at hkv
  · obtain ⟨x, hx, rfl⟩ := List.mem_map.mp hkv
    by_cases e : x.1 = k
    · rw [if_pos e]; exact ⟨l, g, rfl⟩
    · rw [if_neg e]; exact h x hx
  · rcases List.mem_append.mp hkv with q | q
    · exact h kv q
    · rw [List.mem_singleton.mp q]; exact ⟨l, g, rfl⟩
def renF (kvs : List (Key × V)) (z : Str) : Str := match valV kvs (Sum.inr z) with | some (.str y) => y | _ => z
theorem renF_ok {kvs : List (Key × V)} (h : NamesT kvs) (z : Str) : (valV kvs (Sum.inr z)).getD (.str z) = .str (renF kvs z) ∧ ((∃ l, GName l ∧ z = S l) → ∃ l, GName l ∧ renF kvs z = S l) := by
  unfold renF valV
  cases e : kvs.find? fun kv => decide (kv.1 = (Sum.inr z : Key)) with
  | none => exact ⟨rfl, fun q => q⟩
  | some kv =>
    obtain ⟨l, g, q⟩ := h kv (List.mem_of_find?_eq_some e)
    simp only [Option.map_some, q]
    exact ⟨rfl, fun _ => ⟨l, g, rfl⟩⟩
theorem look_none {D : Prs} {z : Str} (h : z ∉ keys D) : (D.any fun p => decide (p.1 = z)) = false ∧ (D.find? fun p => decide (p.1 = z)) = none := by
  have hn : ∀ p ∈ D, ¬ p.1 = z := fun p hp e => h (e ▸ List.mem_map_of_mem hp)
  refine ⟨?_, List.find?_eq_none.mpr fun p hp => by simp [hn p hp]⟩
  rw [List.any_eq_false]
  exact fun p hp => by simp [hn p hp]
theorem put_new {D : Prs} {z : Str} {i : Int} (h : z ∉ keys D) : put D z i = D ++ [(z, i)] := by
  unfold put
  rw [(look_none h).1, if_neg (by decide)]
theorem look_new {D : Prs} {z : Str} {i : Int} (h : z ∉ keys D) : look (D ++ [(z, i)]) z = some i := by
  unfold look
  rw [List.find?_append, (look_none h).2]
  simp
theorem look_old {D : Prs} {z y : Str} {i : Int} (h : y ∈ keys D) : look (D ++ [(z, i)]) y = look D y := by
  obtain ⟨v, hv⟩ := look_some h
  have hv2 := hv
  unfold look at hv ⊢
  rw [List.find?_append]
  cases e : D.find? fun p => decide (p.1 = y) with
  | none => rw [e] at hv; cases hv
  | some x => rfl
theorem nodup_take {l : List Str} {i : Nat} {z : Str} (nd : l.Nodup) (h : l[i]? = some z) : z ∉ l.take i := by
  intro hz
  have e : l = l.take i ++ l.drop i := (List.take_append_drop i l).symm
  rw [e, List.nodup_append] at nd
  have hd : z ∈ l.drop i := by
    have : (l.drop i)[0]? = some z := by
      rw [List.getElem?_drop]
      exact h
    exact List.mem_of_getElem? this
  exact nd.2.2 z hz z hd rfl
end Dw

namespace Dw
open PySem PySem.Spec PyProof.Rows L2 SX
/-! formulas as they stand -/
inductive Fm
  | pow (z : List Nat)
  | word (w z : List Nat) (o : Int)
  | cmp (k : Bool) (ps : Prs) (c : Int)
  | call (f : List Nat) (zs : List (List Nat))
  | not (a : Fm)
  | bin (k : Fin 4) (a b : Fm)
  | qf (k : Bool) (z : List Nat) (a : Fm)
def kCmp : Bool → List Nat
  | true => cs "eq"
  | false => cs "le"
def kQf : Bool → List Nat
  | true => cs "some"
  | false => cs "all"
def kBin : Fin 4 → List Nat
  | 0 => cs "and"
  | 1 => cs "or"
  | 2 => cs "imp"
  | 3 => cs "iff"
def FmAt (H : Hp) : Addr → Fm → Prop
  | t, .pow z => H t = some (.tup [.str (S (cs "pow")), .str (S z)])
  | t, .word w z o => H t = some (.tup [.str (S (cs "word")), .str (S w), .str (S z), .int o])
  | t, .cmp k ps c => ∃ u, H t = some (.tup [.str (S (kCmp k)), .ref u]) ∧ TermAt H u ps c
  | t, .call f zs => ∃ u, H t = some (.tup [.str (S (cs "call")), .str (S f), .ref u]) ∧ H u = some (.tup (zs.map vS))
  | t, .not a => ∃ u, H t = some (.tup [.str (S (cs "not")), .ref u]) ∧ FmAt H u a
  | t, .bin k a b => ∃ u v, H t = some (.tup [.str (S (kBin k)), .ref u, .ref v]) ∧ FmAt H u a ∧ FmAt H v b
  | t, .qf k z a => ∃ u, H t = some (.tup [.str (S (kQf k)), .str (S z), .ref u]) ∧ FmAt H u a
/-- all the tuples of H stand in H' -/
def Tups (H H' : Hp) : Prop := ∀ a xs, H a = some (.tup xs) → H' a = some (.tup xs)
theorem Tups.same {H H' : Hp} (e : Same H H') : Tups H H' := fun a xs h => e _ _ h
theorem Tups.pool {H H' : Hp} {p q : Addr} {ns : List Int} (hP : Pool H p q ns) (e : But p H H') : Tups H H' := by
  obtain ⟨_, _, x, k, hp, _⟩ := hP
  intro a xs h
  refine e a _ (fun z => ?_) h
  rw [z, hp] at h
  cases h
theorem Tups.trans {H H1 H2 : Hp} (a : Tups H H1) (b : Tups H1 H2) : Tups H H2 := fun x xs h => b x xs (a x xs h)
theorem PrsAt.tups {H H' : Hp} (e : Tups H H') : ∀ {as : List Addr} {ps : Prs}, PrsAt H as ps → PrsAt H' as ps
  | [], [], _ => trivial
  | _ :: _, _ :: _, h => ⟨e _ _ h.1, PrsAt.tups e h.2⟩
  | [], _ :: _, h => h.elim
  | _ :: _, [], h => h.elim
theorem TermAt.tups {H H' : Hp} (e : Tups H H') {t : Addr} {ps : Prs} {c : Int} (h : TermAt H t ps c) : TermAt H' t ps c := by
  obtain ⟨q, as, h1, h2, h3⟩ := h
  exact ⟨q, as, e _ _ h1, e _ _ h2, h3.tups e⟩
theorem FmAt.tups {H H' : Hp} (e : Tups H H') : ∀ {f : Fm} {t : Addr}, FmAt H t f → FmAt H' t f
  | .pow _, _, h => e _ _ h
  | .word _ _ _, _, h => e _ _ h
  | .cmp _ _ _, _, ⟨u, h1, h2⟩ => ⟨u, e _ _ h1, h2.tups e⟩
  | .call _ _, _, ⟨u, h1, h2⟩ => ⟨u, e _ _ h1, e _ _ h2⟩
  | .not a, _, ⟨u, h1, h2⟩ => ⟨u, e _ _ h1, FmAt.tups e (f := a) h2⟩
  | .bin _ a b, _, ⟨u, v, h1, h2, h3⟩ => ⟨u, v, e _ _ h1, FmAt.tups e (f := a) h2, FmAt.tups e (f := b) h3⟩
  | .qf _ _ a, _, ⟨u, h1, h2⟩ => ⟨u, e _ _ h1, FmAt.tups e (f := a) h2⟩
/-- its data -/
def strD (l : List Nat) : PyData := .str (S l)
def fmD : Fm → PyData
  | .pow z => .tuple [strD (cs "pow"), strD z]
  | .word w z o => .tuple [strD (cs "word"), strD w, strD z, .int o]
  | .cmp k ps c => .tuple [strD (kCmp k), tmD ps c]
  | .call f zs => .tuple [strD (cs "call"), strD f, .tuple (zs.map strD)]
  | .not a => .tuple [strD (cs "not"), fmD a]
  | .bin k a b => .tuple [strD (kBin k), fmD a, fmD b]
  | .qf k z a => .tuple [strD (kQf k), strD z, fmD a]
theorem strs_dpD {K : PySem.W.Frag} {H : Hp} : ∀ zs : List (List Nat), DpAll K H (zs.map vS) (zs.map strD)
  | [] => .nil
  | _ :: zs => .cons (.str _) (strs_dpD zs)
theorem FmAt.dp {K : PySem.W.Frag} {H : Hp} : ∀ {f : Fm} {t : Addr}, FmAt H t f → Dp K H (.ref t) (fmD f)
  | .pow _, _, h => .tup (SqT.of h) (.cons (.str _) (.cons (.str _) .nil))
  | .word _ _ _, _, h => .tup (SqT.of h) (.cons (.str _) (.cons (.str _) (.cons (.str _) (.cons (.int _) .nil))))
  | .cmp _ _ _, _, ⟨_, h1, h2⟩ => .tup (SqT.of h1) (.cons (.str _) (.cons h2.dp .nil))
  | .call _ zs, _, ⟨_, h1, h2⟩ => .tup (SqT.of h1) (.cons (.str _) (.cons (.str _) (.cons (.tup (SqT.of h2) (strs_dpD zs)) .nil)))
  | .not a, _, ⟨_, h1, h2⟩ => .tup (SqT.of h1) (.cons (.str _) (.cons (FmAt.dp (f := a) h2) .nil))
  | .bin _ a b, _, ⟨_, _, h1, h2, h3⟩ => .tup (SqT.of h1) (.cons (.str _) (.cons (FmAt.dp (f := a) h2) (.cons (FmAt.dp (f := b) h3) .nil)))
  | .qf _ _ a, _, ⟨_, h1, h2⟩ => .tup (SqT.of h1) (.cons (.str _) (.cons (.str _) (.cons (FmAt.dp (f := a) h2) .nil)))
/-- levels above the leaves -/
def Fm.dep : Fm → Nat
  | .not a => a.dep + 1
  | .bin _ a b => max a.dep b.dep + 1
  | .qf _ _ a => a.dep + 1
  | _ => 0
/-- names and terms are good -/
def Fm.Good : Fm → Prop
  | .pow z => GName z
  | .word w z o => GWord w ∧ GName z ∧ 0 ≤ o ∧ o ≤ 9
  | .cmp _ ps c => Dw.Good ps ∧ sortedS (keys ps) = true ∧ (keys ps).Nodup ∧ (∀ p ∈ ps, okC p.2 = true ∧ p.2 ≠ 0) ∧ okC c = true ∧ ps.length ≤ 30
  | .call f zs => GName f ∧ zs ≠ [] ∧ zs.length ≤ 30 ∧ ∀ z ∈ zs, GName z
  | .not a => a.Good
  | .bin _ a b => a.Good ∧ b.Good
  | .qf _ z a => GName z ∧ a.Good
theorem ld_ok {l : List Nat} (h : GName l) : PyData.strOk (S l) = true := ok_S fun c hc => ld_128 c (h.all c hc)
theorem ud_ok {l : List Nat} (h : GWord l) : PyData.strOk (S l) = true := ok_S fun c hc => ud_128 c (h.all c hc)
theorem heads_128 : ∀ s ∈ (["pow", "word", "call", "not", "eq", "le", "some", "all", "and", "or", "imp", "iff"] : List String), ∀ c ∈ cs s, c < 128 := by decide +kernel
theorem hd_ok {s : String} (h : s ∈ (["pow", "word", "call", "not", "eq", "le", "some", "all", "and", "or", "imp", "iff"] : List String)) : PyData.strOk (S (cs s)) = true := ok_S (heads_128 s h)
theorem kCmp_ok (k : Bool) : PyData.strOk (S (kCmp k)) = true := by cases k <;> exact hd_ok (by simp)
theorem kQf_ok (k : Bool) : PyData.strOk (S (kQf k)) = true := by cases k <;> exact hd_ok (by simp)
theorem kBin_ok : ∀ k : Fin 4, PyData.strOk (S (kBin k)) = true
  | 0 => hd_ok (s := "and") (by simp)
  | 1 => hd_ok (s := "or") (by simp)
  | 2 => hd_ok (s := "imp") (by simp)
  | 3 => hd_ok (s := "iff") (by simp)
theorem strsD_lay : ∀ zs : List (List Nat), (∀ z ∈ zs, GName z) → PyData.canLayAll0 (zs.map strD) = true ∧ PyData.depthAll (zs.map strD) = 0
  | [], _ => by simp [PyData.canLayAll0, PyData.depthAll]
  | z :: zs, h => by
    obtain ⟨h1, h2⟩ := strsD_lay zs fun y hy => h y (List.mem_cons_of_mem _ hy)
    rw [List.map_cons]
    refine ⟨?_, ?_⟩
    · show PyData.canLayAll0 (PyData.str (S z) :: zs.map strD) = true
      simp only [PyData.canLayAll0, PyData.canLay0, ld_ok (h z List.mem_cons_self), h1, Bool.and_self]
    · show PyData.depthAll (PyData.str (S z) :: zs.map strD) = 0
      simp only [PyData.depthAll, PyData.depth, h2, Nat.max_self]
theorem tm_lay {ps : Prs} (h : Good ps) (c : Int) : (tmD ps c).canLay0 = true ∧ (tmD ps c).depth ≤ 3 := by
  obtain ⟨h1, h2⟩ := prs_lay h
  refine ⟨by simp [tmD, PyData.canLay0, PyData.canLayAll0, h1], ?_⟩
  simp only [tmD, PyData.depth, PyData.depthAll]
  omega
theorem fm_lay : ∀ f : Fm, f.Good → (fmD f).canLay0 = true ∧ (fmD f).depth ≤ f.dep + 4
  | .pow z, h => by
    refine ⟨by simp [fmD, strD, PyData.canLay0, PyData.canLayAll0, hd_ok (s := "pow") (by simp), ld_ok h], ?_⟩
    simp [fmD, strD, PyData.depth, PyData.depthAll, Fm.dep]
  | .word w z o, h => by
    refine ⟨by simp [fmD, strD, PyData.canLay0, PyData.canLayAll0, hd_ok (s := "word") (by simp), ld_ok h.2.1, ud_ok h.1], ?_⟩
    simp [fmD, strD, PyData.depth, PyData.depthAll, Fm.dep]
  | .cmp k ps c, h => by
    obtain ⟨h1, h2⟩ := tm_lay h.1 c
    refine ⟨by simp [fmD, strD, PyData.canLay0, PyData.canLayAll0, kCmp_ok, h1], ?_⟩
    simp only [fmD, strD, PyData.depth, PyData.depthAll, Fm.dep]
    omega
  | .call f zs, h => by
    obtain ⟨h1, h2⟩ := strsD_lay zs h.2.2.2
    refine ⟨?_, ?_⟩
    · show PyData.canLay0 (.tuple [.str (S (cs "call")), .str (S f), .tuple (zs.map strD)]) = true
      simp only [PyData.canLay0, PyData.canLayAll0, hd_ok (s := "call") (by simp), ld_ok h.1, h1, Bool.and_self]
    · show PyData.depth (.tuple [.str (S (cs "call")), .str (S f), .tuple (zs.map strD)]) ≤ 0 + 4
      simp only [PyData.depth, PyData.depthAll, h2]
      omega
  | .not a, h => by
    obtain ⟨h1, h2⟩ := fm_lay a h
    refine ⟨by simp [fmD, strD, PyData.canLay0, PyData.canLayAll0, hd_ok (s := "not") (by simp), h1], ?_⟩
    simp only [fmD, strD, PyData.depth, PyData.depthAll, Fm.dep]
    omega
  | .bin k a b, h => by
    obtain ⟨h1, h2⟩ := fm_lay a h.1
    obtain ⟨h3, h4⟩ := fm_lay b h.2
    refine ⟨by simp [fmD, strD, PyData.canLay0, PyData.canLayAll0, kBin_ok, h1, h3], ?_⟩
    simp only [fmD, strD, PyData.depth, PyData.depthAll, Fm.dep]
    omega
  | .qf k z a, h => by
    obtain ⟨h1, h2⟩ := fm_lay a h.2
    refine ⟨by simp [fmD, strD, PyData.canLay0, PyData.canLayAll0, kQf_ok, ld_ok h.1, h1], ?_⟩
    simp only [fmD, strD, PyData.depth, PyData.depthAll, Fm.dep]
    omega
theorem fm_shaped {f : Fm} (h : f.Good) (hd : f.dep ≤ 40) : SeqAt.shaped (fmD f) = true := by
  obtain ⟨h1, h2⟩ := fm_lay f h
  show ((fmD f).canLay0 && decide ((fmD f).depth ≤ 64)) = true
  rw [Bool.and_eq_true]
  exact ⟨h1, decide_eq_true (by omega)⟩
end Dw

namespace Dw
open PySem PySem.Spec PyProof.Rows L2 SX
/-! a written table with texts as keys: in, not in -/
def KTabl (K : PySem.W.Frag) (w : World) (a : Addr) (ks : List (List Nat)) : Prop :=
  ∃ es n, K.lookup a = some ⟨.type "dict", none, .dict es n, #[]⟩ ∧ PySem.W.KeysLit w.params es.toList ∧ (a == sysModules) = false ∧ ∀ l : List Nat, ∃ r, PySem.W.nsIn K a (S l) = some r ∧ r.isSome = decide (l ∈ ks)
def rKIn (K : PySem.W.Frag) (w : World) (neg : Bool) : R2 := fun x y H Q => ∃ (a : Addr) (ks : List (List Nat)) (l : List Nat), y = .ref a ∧ x = .str (S l) ∧ KTabl K w a ks ∧ Q (.bl (if neg then !decide (l ∈ ks) else decide (l ∈ ks))) H
section
variable {X : Cx}
theorem op_kIn : OpR X (compareOp .In) (rKIn X.K X.w false) := by
  intro pins s σ H x y v u Q I rx ry h
  obtain ⟨a, ks, l, rfl, rfl, ⟨es, n, hl, hk, low, hr⟩, q⟩ := h
  obtain ⟨t, rfl⟩ := (show ∃ t, v = Value.str (S l) t from rx)
  obtain rfl : u = Value.ref a := ry
  obtain ⟨r, h1, h2⟩ := hr l
  refine wpAny_in_of (strKind_is X.prog X.w (S l) t) low (PySem.W.mapOf_K (prog := X.prog) (w := X.w) I.kIn hl hk) ?_
  rw [PySem.W.find_K hl h1, h2]
  exact ⟨.bl (decide (l ∈ ks)), H, I.tok _, rfl, q⟩
theorem op_kNotIn : OpR X (compareOp .NotIn) (rKIn X.K X.w true) := by
  intro pins s σ H x y v u Q I rx ry h
  obtain ⟨a, ks, l, rfl, rfl, ⟨es, n, hl, hk, low, hr⟩, q⟩ := h
  obtain ⟨t, rfl⟩ := (show ∃ t, v = Value.str (S l) t from rx)
  obtain rfl : u = Value.ref a := ry
  obtain ⟨r, h1, h2⟩ := hr l
  refine wpAny_notIn_of (strKind_is X.prog X.w (S l) t) low (PySem.W.mapOf_K (prog := X.prog) (w := X.w) I.kIn hl hk) ?_
  rw [PySem.W.find_K hl h1, h2]
  exact ⟨.bl (!decide (l ∈ ks)), H, I.tok _, rfl, q⟩
end
end Dw

namespace Dw
open PySem PySem.Spec PyProof.Rows L2 SX
section
variable {P : Program} {w : World} {A : Around} {E : Value → Shared → Prop} {s : Shared} {a : Addr} {ks : List Str}
theorem TxSet.setOf (R : TxSet P w s.heap a ks) : s.heap.SetOf (PySem.strKind P w) a (fun z => decide (z ∈ ks)) ks.length := by
  obtain ⟨ob, xs, ep, tb, ho, hx, hd, g, pm, nd, hb, hf, hr, hl⟩ := R
  refine ⟨ob, xs, ep, tb, ho, hx, hd, goodT_elems g, fun z => ?_, hb, hf, ?_⟩
  · show decide (z ∈ ks) = true ↔ _
    rw [decide_eq_true_eq, ← pm.mem_iff, List.mem_map]
    constructor
    · rintro ⟨e, m, q⟩
      exact ⟨e, m, (goodT_is (g e m) z).2 q⟩
    · rintro ⟨e, m, q⟩
      exact ⟨e, m, (goodT_is (g e m) z).1 q⟩
  · have q := pm.length_eq
    rw [List.length_map, Array.length_toList] at q
    exact q
theorem tx_put {z : Str} {u : Tok} {Q : Value → Shared → Prop} (R : TxSet P w s.heap a ks) (room : ks.length + 1 < scanBound)
    (hQ : ∀ h', Heap.SameBut a s.heap h' → TxSet P w h' a (putT z ks) → Q .none { s with heap := h', toks := s.toks + 1 }) :
    wpAny (model P w) A (call (.builtin "set.add") [.ref a, .str z u]) Q E s := by
  have ty := R.setOf
  refine wpAny_call_entry F.slot_set_add ty.typeIs F.entry_set_add ?_ (F.args_set_add_2 _ _)
  unfold Builtin.«set.add» Builtin.Frozenset.oneOther
  simp only [List.isEmpty_nil, bind_assoc]
  unfold Builtin.Frozenset.addrOf setAdd
  refine wpAny_bind (wpAny_pure ?_)
  try dsimp only
  refine wpAny_bind (wpAny_pure ?_)
  try dsimp only
  refine wpAny_bind ?_
  refine wpAny_holding ?_
  refine wpAny_bind ((PySem.strKind P w).pyHash (strKind_is P w z u) ?_)
  refine tx_add (s := { s with toks := s.toks + 1 }) R room fun h' sb r => ?_
  show wpAny _ _ (ret Value.none) _ _ _
  exact wpAny_pure ⟨_, rfl, hQ h' sb r⟩
end
section
variable {X : Cx}
/-- set(): a set of texts, empty -/
def rSetT0 (P : Program) (w : World) : List V → Hp → VK → Prop := fun vs H Q => vs = [] ∧ ∀ p, H p = none → Q (.ref p) (upd H p (SetTx P w p []))
theorem setT0 : CallR X (.type "set") (rSetT0 X.prog X.w) := by
  intro pins s σ H vs us Q I r h
  obtain ⟨rfl, q⟩ := h
  cases r
  refine setR_new fun _ => ?_
  exact ⟨.ref _, upd H s.heap.objs.size (SetTx X.prog X.w s.heap.objs.size []), I.laid (t' := s.toks) (fun b u e => Heap.get?_push_of_some _ e) (Nat.le_refl _) (setTx_new (tx_fresh (Heap.get?_push_size _ rfl))), rfl, q _ (I.hok.fresh (Nat.le_refl _))⟩
/-- found.add(text) -/
def rAddT (P : Program) (w : World) : V → List V → Hp → VK → Prop := fun x vs H Q => ∃ (a : Addr) (z : Str) (ks : List Str), x = V.ref a ∧ vs = [V.str z] ∧ H a = some (SetTx P w a ks) ∧ ks.length < 4000 ∧ Q .non (upd H a (SetTx P w a (putT z ks)))
theorem mt_addT : MtR X "set.add" (rAddT X.prog X.w) := by
  intro pins s σ H x vs v us Q I rx rv h
  obtain ⟨a, z, ks, rfl, rfl, ha, room, q⟩ := h
  obtain rfl : v = Value.ref a := rx
  obtain ⟨u1, rfl, t, rfl⟩ := vals1 rv
  have R : TxSet X.prog X.w s.heap a ks := (I.hok a _ ha).1
  refine tx_put R (by unfold scanBound; omega) fun h' sb new => ?_
  have he : ∃ u, h'.get? a = some u := by
    have ⟨ob, _, _, _, ho, _⟩ := new
    exact ⟨ob, ho⟩
  exact ⟨.non, upd H a (SetTx X.prog X.w a (putT z ks)), I.write (e := a) (t' := s.toks + 1) (by rw [ha]; trivial) (.inl rfl) (fun b u hb hu => (sb.2 b hb).trans hu) he (setTx_new new), rfl, q⟩
def tAddT (P : Program) (w : World) (to : TE) (t : TA) : TE := fun σ H Q => to σ H fun x H1 => (∃ a ks, x = V.ref a ∧ H1 a = some (SetTx P w a ks)) ∧ t σ H1 fun vs H2 => rAddT P w x vs H2 Q
variable {o e : Expr} {es : List Expr} {to : TE} {t : TA} {apos cpos : Pos}
theorem pe_addT (ho : PE X o to) (ha : PA X (e :: es) t)
    (h1 : attributeBase o "add" X.env (eval o X.env) = eval o X.env := by rfl)
    (h2 : ((backTo cpos (starEach (e :: es) X.env)).all (fun x => !x.1) && (backToKw cpos (keywordEach [] X.env)).all (fun x => x.1.isSome) && decide ((e :: es).length + ([] : List Keyword).length + (if ([] : List Keyword).isEmpty then 0 else 1) < 30)) = true := by rfl)
    (h3 : (apos.endLine == cpos.line) = true := by rfl) (h4 : starEach (e :: es) X.env = (false, eval e X.env) :: starEach es X.env := by rfl) (h5 : (backTo cpos (starEach es X.env)).any (·.1) = false := by rfl) :
    PE X (.Call (.Attribute o "add" apos) (e :: es) [] cpos) (tAddT X.prog X.w to t) := by
  refine ⟨fun pins s σ H Q I h => ?_⟩
  refine wpAny_Call_method_late h1 h2 h3 rfl (thn (ho.run pins s σ H _ I h) fun v s1 ⟨x, H1, I1, r1, ty, q1⟩ => ?_)
  obtain ⟨a, ks, rfl, hka⟩ := ty
  have R : TxSet X.prog X.w s1.heap a ks := (I1.hok a _ hka).1
  obtain rfl : v = Value.ref a := r1
  have so := R.setOf
  refine ⟨"set", "set.add", F.plainAttrs_set, F.slot_set_add, F.type_set_add, so.typeIs, so.noDict, ?_⟩
  have hA := ha.run cpos pins s1 σ H1 _ I1 q1
  rw [h4] at hA ⊢
  refine Calls.callWith_builtin (by show (false || (backTo cpos (starEach es X.env)).any (·.1)) = false; rw [h5] <;> rfl) (Calls.evalArgs_plain ?_)
  exact thn hA fun us s2 ⟨vs, H2, I2, r2, q2⟩ => mt_addT pins s2 σ H2 (.ref a) vs (.ref a) us Q I2 rfl r2 q2
end
end Dw

namespace Dw
open PySem PySem.Spec PyProof.Rows L2 SX
/-! max(list, default=d) -/
theorem mxk (a v : Value) : argsOk "max" ⟨[a], [(Str.ofString "default", v)]⟩ := by unfold argsOk; kernel_rfl
theorem mxn : (toString "max" ++ toString ".loop" : String) = "max.loop" := by decide
section
variable {pr : Program} {w : World} {A : Around} {I : Addr} {fp wr : List Addr} {n : Nat} {P : Nat → Value → Prop} {St : Nat → Heap → Prop} {R : Result → Shared → Prop}
/-- what the loop leaves to be shown -/
def MxEnd (P : Nat → Value → Prop) (wr : List Addr) (n : Nat) (bt : Nat → Nat → Bool) (S : Addr) (R : Result → Shared → Prop) (s : Shared) : Prop :=
  ∀ v h' tk, P (argBest bt (n - 1)) v → (∀ b o, b ∉ wr → b ≠ S → s.heap.get? b = some o → h'.get? b = some o) → R (.ok (.ret v)) { s with heap := h', toks := tk }
theorem mx_turn (W : Walks pr w A.in1 I fp wr n P St) (bt : Nat → Nat → Bool) (cm : CmpOf pr w A.in1 .Gt P bt) (d : Value) (S : Addr) (nS : S ∉ fp) :
    ∀ (k j : Nat) (s : Shared) (x : Value) (c : Nat), n - (j + 1) = k → j + 1 ≤ n → St (j + 1) s.heap → P (argBest bt j) x → s.heap.get? S = some ⟨.type "list", none, .seq #[x, x] c, #[]⟩ → MxEnd P wr n bt S R s →
      codeAny (model pr w) A (.builtin "max.loop" ⟨[.ref I, .none, .ref S], [(Str.ofString "default", d)]⟩) R s := by
  have nW : S ∉ wr := fun q => nS (W.sub _ q)
  intro k
  induction k with
  | zero =>
    intro j s x c e0 lj st px hS fin
    have ej : j + 1 = n := by omega
    refine codeAny_builtin PySem.F.entry_max_loop ?_; rw [Around.under_plainId PySem.F.plain_max_loop _]
    show wpAny _ A.in1 (seqItems? (.ref S) >>= _) _ _ s
    refine wpAny_bind (wpAny_seqItems hS rfl (?_ : wpAny _ A.in1 (tryCatch (pyNext (.ref I)) _ >>= _) _ _ s))
    refine wpAny_bind (wpAny_tryCatch (W.done s _ _ (ej ▸ st) fun h1 tk kp => ?_))
    have hS1 := kp S _ nW hS
    refine (wpAny_bind ?_ : wpAny _ A.in1 (updateSeq S (fun _ => #[]) >>= _) _ _ _)
    refine wpAny_updateSeq hS1 rfl (wpAny_bind (wpAny_letGo (wpAny_pure ?_)))
    exact fin x _ tk (by rw [← ej]; exact px) fun b o bw bS q => (Heap.get?_update_other _ _ (Ne.symm bS)).trans (kp b o bw q)
  | succ k ih =>
    intro j s x c e0 lj st px hS fin
    have lt : j + 1 < n := by omega
    refine codeAny_builtin PySem.F.entry_max_loop ?_; rw [Around.under_plainId PySem.F.plain_max_loop _]
    show wpAny _ A.in1 (seqItems? (.ref S) >>= _) _ _ s
    refine wpAny_bind (wpAny_seqItems hS rfl (?_ : wpAny _ A.in1 (tryCatch (pyNext (.ref I)) _ >>= _) _ _ s))
    refine wpAny_bind (wpAny_tryCatch (W.item (j + 1) s _ _ lt st fun y h1 tk py st1 kp => ?_))
    have hS1 := kp S _ nW hS
    refine (wpAny_bind (wpAny_tryCatch (wpAny_holding (wpAny_bind (cm (j + 1) (argBest bt j) y x _ _ _ py px ?_)))) : wpAny _ A.in1 (tryCatch (holding [y, y] (richCompare .Gt y x >>= _)) _ >>= _) _ _ _)
    refine wpAny_bind (wpAny_holding (wpAny_truthy_bool (wpAny_bind (wpAny_letGo (wpAny_pure ?_)))))
    cases hb : bt (j + 1) (argBest bt j) with
    | true =>
      simp only [if_true]
      refine wpAny_bind (wpAny_updateSeq hS1 rfl (wpAny_bind (wpAny_letGo ?_)))
      rw [mxn]
      refine (wpAny_pure ⟨plainId_quiet PySem.F.plain_max_loop _, ih (j + 1) _ y _ (by omega) lt (W.frame _ _ _ st1 fun b bf o q => ?_) (by simp only [argBest, hb, if_true]; exact py) (Heap.get?_update_self _ hS1 rfl) fun v h2 tk2 pv kp2 => ?_⟩)
      · exact (Heap.get?_update_other _ _ (fun q : S = b => nS (q ▸ bf))).trans q
      · exact fin v h2 tk2 pv fun b o bw bS q => kp2 b o bw bS ((Heap.get?_update_other _ _ (Ne.symm bS)).trans (kp b o bw q))
    | false =>
      simp only [Bool.false_eq_true, if_false]
      refine wpAny_bind (wpAny_letGo ?_)
      rw [mxn]
      refine (wpAny_pure ⟨plainId_quiet PySem.F.plain_max_loop _, ih (j + 1) _ x c (by omega) lt st1 (by simp only [argBest, hb, Bool.false_eq_true, if_false]; exact px) hS1 fun v h2 tk2 pv kp2 => ?_⟩)
      exact fin v h2 tk2 pv fun b o bw bS q => kp2 b o bw bS (kp b o bw q)
theorem mx_first (W : Walks pr w A.in1 I fp wr n P St) (bt : Nat → Nat → Bool) (cm : CmpOf pr w A.in1 .Gt P bt) (d : Value) (S : Addr) (nS : S ∉ fp) {s : Shared} {c : Nat} (st : St 0 s.heap) (hS : s.heap.get? S = some ⟨.type "list", none, .seq #[] c, #[]⟩)
    (no : n = 0 → ∀ h' tk, (∀ b o, b ∉ wr → b ≠ S → s.heap.get? b = some o → h'.get? b = some o) → R (.ok (.ret d)) { s with heap := h', toks := tk })
    (fin : 0 < n → MxEnd P wr n bt S R s) :
    codeAny (model pr w) A (.builtin "max.loop" ⟨[.ref I, .none, .ref S], [(Str.ofString "default", d)]⟩) R s := by
  have nW : S ∉ wr := fun q => nS (W.sub _ q)
  refine codeAny_builtin PySem.F.entry_max_loop ?_; rw [Around.under_plainId PySem.F.plain_max_loop _]
  show wpAny _ A.in1 (seqItems? (.ref S) >>= _) _ _ s
  refine wpAny_bind (wpAny_seqItems hS rfl (?_ : wpAny _ A.in1 (tryCatch (pyNext (.ref I)) _ >>= _) _ _ s))
  rcases Nat.eq_zero_or_pos n with h0 | h0
  · subst h0
    refine wpAny_bind (wpAny_tryCatch (W.done s _ _ st fun h1 tk kp => ?_))
    refine (wpAny_bind (wpAny_rule ?_) : wpAny _ A.in1 (rule _ >>= _) _ _ _)
    exact wpAny_pure (no rfl h1 tk fun b o bw bS q => kp b o bw q)
  · refine wpAny_bind (wpAny_tryCatch (W.item 0 s _ _ h0 st fun y h1 tk py st1 kp => ?_))
    have hS1 := kp S _ nW hS
    refine (wpAny_bind ?_ : wpAny _ A.in1 (updateSeq S (fun _ => #[y, y]) >>= _) _ _ _)
    refine wpAny_updateSeq hS1 rfl ?_
    rw [mxn]
    refine (wpAny_pure ⟨plainId_quiet PySem.F.plain_max_loop _, mx_turn W bt cm d S nS _ 0 _ y _ rfl h0 (W.frame _ _ _ st1 fun b bf o q => ?_) py (Heap.get?_update_self _ hS1 rfl) fun v h2 tk2 pv kp2 => ?_⟩)
    · exact (Heap.get?_update_other _ _ (fun q : S = b => nS (q ▸ bf))).trans q
    · exact fin h0 v h2 tk2 pv fun b o bw bS q => kp2 b o bw bS ((Heap.get?_update_other _ _ (Ne.symm bS)).trans (kp b o bw q))
theorem mx_ints {E : Value → Shared → Prop} {s : Shared} {l : Addr} {xs : Array (Int × Tok)} {d : Value} {Q : Value → Shared → Prop} (hh : A.handled = none) (hl : s.heap.IsList l (intItems xs))
    (no : xs.size = 0 → ∀ h' tk, (∀ b o, s.heap.get? b = some o → h'.get? b = some o) → Q d { s with heap := h', toks := tk })
    (fin : ∀ v h' tk, 0 < xs.size → (intItems xs)[argBest (fun i j => decide (numAt xs i > numAt xs j)) (xs.size - 1)]? = some v → (∀ b o, s.heap.get? b = some o → h'.get? b = some o) → Q v { s with heap := h', toks := tk }) :
    wpAny (model pr w) A (call (.builtin "max") [.ref l] [(Str.ofString "default", d)]) Q E s := by
  refine PyProof.Rows.kmb_tree PySem.F.kind_max PySem.F.plain_max PySem.F.entry_max (mxk _ _) ?_
  have hlt : l < s.heap.objs.size := let ⟨_, e, _⟩ := hl; Heap.lt_size e
  refine (wpAny_bind (wpAny_of_eq (show Builtin.Builtins.bindParams "max" ["key", "default"] 0 ⟨[], [(Str.ofString "default", d)]⟩ = pure [none, some d] from rfl) ?_) : wpAny _ A.in1 (Builtin.Builtins.bindParams "max" ["key", "default"] 0 ⟨[], [(Str.ofString "default", d)]⟩ >>= _) _ _ s)
  refine wpAny_bind (wpAny_pure (wpAny_bind (iter_intList hl fun s2 e st bd nl => ?_)))
  subst e
  refine wpAny_bind (wpAny_newObj_type ?_)
  rw [mxn]
  refine wpAny_pure ⟨plainId_quiet PySem.F.plain_max_loop _, ?_⟩
  have W := Walks.list (prog := pr) (w := w) (A := A.in1) hh s.heap.objs.size l nl (intItems xs)
  have sz : (intItems xs).size = xs.size := by simp [intItems]
  have old := fun {h' : Heap} kp => old_kept (s := s) (l := l) (h' := h') kp
  have nS : (s.heap.push { cls := .type "list_iterator", data := .fields #[.ref l, .int 0 0] }).objs.size ∉ [s.heap.objs.size, l] := fun hm => Nat.lt_irrefl _ (bd _ hm)
  refine mx_first W (fun i j => decide (numAt xs i > numAt xs j)) (CmpOf.ints_gt (numAt xs) fun _ _ => intItems_at) d _ nS (W.frame _ _ _ st fun b _ o q => Heap.get?_push_of_some _ q) (Heap.get?_push_size _ rfl) (fun z h' tk kp => ?_) fun z v h' tk pv kp => ?_
  · exact no (sz ▸ z) h' tk (old fun b o bw q => kp b o bw (Nat.ne_of_lt (Heap.lt_size q)) (Heap.get?_push_of_some _ q))
  · exact fin v h' tk (sz ▸ z) (by rw [sz] at pv; exact pv) (old fun b o bw q => kp b o bw (Nat.ne_of_lt (Heap.lt_size q)) (Heap.get?_push_of_some _ q))
end
/-- max of a list of ints, with a default -/
def rMaxDf (K : PySem.W.Frag) : List V → List V → Hp → VK → Prop := fun vs zs H Q => ∃ (a : Addr) (ns : List Int) (d : Int), vs = [V.ref a] ∧ zs = [.int d] ∧ SqL K H a (ns.map V.int) ∧ ∀ m, ((ns = [] ∧ m = d) ∨ m ∈ ns) → (∀ y ∈ ns, y ≤ m) → Q (.int m) H
theorem cr_maxDf {X : Cx} (K : PySem.W.Frag) (hc : X.calm = true := by rfl) (hK : X.K = K := by rfl) : CallRK X (.builtin "max") ["default"] (rMaxDf K) := by
  subst hK
  intro pins s σ H xs zs us ws Q I r rz h
  obtain ⟨a, ns, d, rfl, rfl, hs, q⟩ := h
  obtain ⟨its, rv, hl, _⟩ := I.list hs
  rw [Vals.ref1 r]
  cases rz with
  | cons e er =>
  cases er
  obtain ⟨td, rfl⟩ := e
  obtain ⟨xs, e⟩ := rv.ints.allInts.items
  have hn : numsOf (intItems xs).toList = ns := by rw [← e]; exact rv.ints.numsOf
  rw [nums_intItems] at hn
  have hl2 := hl.isList
  rw [e] at hl2
  subst hn
  refine mx_ints (I.ok.hd hc) hl2 (fun z h' tk hk => ?_) fun v h' tk z hv hk => ?_
  · have ez : xs = #[] := Array.eq_empty_of_size_eq_zero z
    subst ez
    exact ⟨.int d, H, I.kept hk, ⟨_, rfl⟩, q d (.inl ⟨rfl, rfl⟩) (fun y hy => nomatch hy)⟩
  · obtain ⟨t, rfl⟩ := intItems_at hv
    obtain ⟨h1, h2⟩ := argBest_gt (numAt xs) (xs.size - 1)
    refine ⟨.int _, H, I.kept hk, ⟨_, rfl⟩, q _ (.inr ?_) fun y hy => ?_⟩
    · rw [numAt_eq]; exact PySem.getD_mem (by rw [List.length_map, Array.length_toList]; omega)
    · obtain ⟨j, hj, rfl⟩ := mem_getD hy
      rw [List.length_map, Array.length_toList] at hj
      rw [← numAt_eq]; exact h2 j (by omega)
end Dw

namespace Dw
open PySem PySem.Spec PyProof.Rows L2 SX
abbrev nv (n : Nat) : V := .int (n : Int)
/-! digits and the numbers that they stand for -/
def lo : List Nat → Nat
  | [] => 0
  | d :: r => d + 2 * lo r
def Bits (ds : List Nat) : Prop := ∀ d ∈ ds, d < 2
theorem lo_app : ∀ a b : List Nat, lo (a ++ b) = lo a + 2 ^ a.length * lo b
  | [], b => by simp [lo]
  | d :: a, b => by
    show d + 2 * lo (a ++ b) = d + 2 * lo a + 2 ^ (a.length + 1) * lo b
    rw [lo_app a b, Nat.pow_succ, Nat.mul_add, Nat.mul_comm (2 ^ a.length) 2, Nat.mul_assoc]
    omega
theorem lo_lt : ∀ {ds : List Nat}, Bits ds → lo ds < 2 ^ ds.length
  | [], _ => by simp [lo]
  | d :: r, h => by
    have h1 := lo_lt (ds := r) fun x hx => h x (List.mem_cons_of_mem _ hx)
    have h2 := h d List.mem_cons_self
    show d + 2 * lo r < 2 ^ (r.length + 1)
    rw [Nat.pow_succ]
    omega
theorem lo_bit : ∀ {ds : List Nat} (k : Nat), Bits ds → lo ds / 2 ^ k % 2 = ds.getD k 0
  | [], k, _ => by simp [lo]
  | d :: r, 0, h => by
    have h2 := h d List.mem_cons_self
    show (d + 2 * lo r) / 1 % 2 = d
    omega
  | d :: r, k + 1, h => by
    have h1 := lo_bit (ds := r) k fun x hx => h x (List.mem_cons_of_mem _ hx)
    have h2 := h d List.mem_cons_self
    show (d + 2 * lo r) / 2 ^ (k + 1) % 2 = r.getD k 0
    rw [Nat.pow_succ, Nat.mul_comm (2 ^ k) 2, ← Nat.div_div_eq_div_mul]
    have : (d + 2 * lo r) / 2 = lo r := by omega
    rw [this, h1]
def bitsL (n w : Nat) : List Nat := (List.range w).map fun k => n / 2 ^ k % 2
theorem bitsL_len (n w : Nat) : (bitsL n w).length = w := by simp [bitsL]
theorem bitsL_bits (n w : Nat) : Bits (bitsL n w) := fun d h => by
  obtain ⟨k, _, rfl⟩ := List.mem_map.mp h
  exact Nat.mod_lt _ (by decide)
theorem bitsL_zero (w : Nat) : bitsL 0 w = List.replicate w 0 := by
  refine List.ext_getElem (by simp [bitsL]) fun i h1 h2 => ?_
  simp [bitsL]
theorem bitsL_succ (n w : Nat) : bitsL n (w + 1) = n % 2 :: bitsL (n / 2) w := by
  unfold bitsL
  rw [List.range_succ_eq_map, List.map_cons, List.map_map]
  congr 1
  · simp
  · refine List.map_congr_left fun k _ => ?_
    show n / 2 ^ (k + 1) % 2 = n / 2 / 2 ^ k % 2
    rw [Nat.pow_succ, Nat.mul_comm, Nat.div_div_eq_div_mul]
theorem lo_bitsL : ∀ (n w : Nat), lo (bitsL n w) = n % 2 ^ w
  | n, 0 => by simp [bitsL, lo, Nat.mod_one]
  | n, w + 1 => by
    rw [bitsL_succ]
    show n % 2 + 2 * lo (bitsL (n / 2) w) = _
    rw [lo_bitsL (n / 2) w, Nat.pow_succ, Nat.mul_comm (2 ^ w) 2, Nat.mod_mul]
theorem lo_bitsL_of {n w : Nat} (h : n < 2 ^ w) : lo (bitsL n w) = n := by rw [lo_bitsL, Nat.mod_eq_of_lt h]
theorem bitsL_lo {ds : List Nat} (h : Bits ds) : bitsL (lo ds) ds.length = ds := by
  refine List.ext_getElem (by simp [bitsL]) fun i h1 h2 => ?_
  simp only [bitsL, List.getElem_map, List.getElem_range]
  rw [lo_bit i h, List.getD_eq_getElem?_getD, List.getElem?_eq_getElem h2]
  rfl
/-- the sum of the digits' values -/
theorem lo_sum : ∀ (ds : List Nat) (m : Nat), ((List.range ds.length).map fun i => ((ds.getD i 0 : Nat) : Int) * 2 ^ (i + m)).sum = (lo ds : Int) * 2 ^ m
  | [], m => by simp [lo]
  | d :: r, m => by
    rw [List.length_cons, List.range_succ_eq_map, List.map_cons, List.map_map, List.sum_cons]
    have h := lo_sum r (m + 1)
    have e : (List.map ((fun i => (((d :: r).getD i 0 : Nat) : Int) * 2 ^ (i + m)) ∘ Nat.succ) (List.range r.length)) = (List.range r.length).map fun i => ((r.getD i 0 : Nat) : Int) * 2 ^ (i + (m + 1)) := by
      refine List.map_congr_left fun i _ => ?_
      show ((((d :: r).getD (i + 1) 0 : Nat)) : Int) * 2 ^ (i + 1 + m) = _
      rw [show i + 1 + m = i + (m + 1) by omega]
      rfl
    rw [e, h]
    show ((d : Nat) : Int) * 2 ^ (0 + m) + (lo r : Int) * 2 ^ (m + 1) = ((d + 2 * lo r : Nat) : Int) * 2 ^ m
    rw [Nat.zero_add, Int.pow_succ, Int.natCast_add, Int.natCast_mul, Int.add_mul]
    have : (lo r : Int) * (2 ^ m * 2) = ((2 : Nat) : Int) * (lo r : Int) * 2 ^ m := by
      rw [Int.mul_comm ((2 : Nat) : Int), Int.mul_assoc, Int.mul_comm (2 ^ m) 2]
      rfl
    rw [this]
/-! words -/
def blen (n : Nat) : Nat := Builtin.Int.intBits (n : Int)
theorem blen_zero : blen 0 = 0 := rfl
theorem blen_pos {n : Nat} (h : n ≠ 0) : blen n = n.log2 + 1 := by
  unfold blen Builtin.Int.intBits
  rw [if_neg (by simpa using h), Int.natAbs_natCast]
theorem lt_blen (n : Nat) : n < 2 ^ blen n := by
  by_cases h : n = 0
  · subst h; decide
  · rw [blen_pos h]; exact Nat.lt_log2_self
theorem blen_le {n k : Nat} (h : n < 2 ^ k) : blen n ≤ k := by
  by_cases h0 : n = 0
  · subst h0; exact Nat.zero_le _
  · rw [blen_pos h0]
    exact Nat.succ_le_of_lt ((Nat.log2_lt h0).mpr h)
theorem blen_top {n : Nat} (h : n ≠ 0) : n / 2 ^ (blen n - 1) % 2 = 1 := by
  rw [blen_pos h, Nat.add_sub_cancel]
  have h1 := Nat.log2_self_le h
  have h2 : n < 2 ^ (n.log2 + 1) := Nat.lt_log2_self
  rw [Nat.pow_succ] at h2
  have hp : 0 < 2 ^ n.log2 := Nat.two_pow_pos _
  have : n / 2 ^ n.log2 = 1 := by
    refine Nat.div_eq_of_lt_le ?_ ?_
    · rw [Nat.one_mul]; exact h1
    · rw [Nat.mul_comm]; omega
  rw [this]
def bls : List Nat → Nat
  | [] => 0
  | n :: r => max (blen n) (bls r)
theorem bls_le {ns : List Nat} {k : Nat} (h : ∀ n ∈ ns, n < 2 ^ k) : bls ns ≤ k := by
  induction ns with
  | nil => exact Nat.zero_le _
  | cons n r ih => exact Nat.max_le.mpr ⟨blen_le (h n List.mem_cons_self), ih fun x hx => h x (List.mem_cons_of_mem _ hx)⟩
theorem le_bls {ns : List Nat} {n : Nat} (h : n ∈ ns) : blen n ≤ bls ns := by
  induction ns with
  | nil => cases h
  | cons m r ih =>
    rcases List.mem_cons.mp h with rfl | h
    · exact Nat.le_max_left _ _
    · exact Nat.le_trans (ih h) (Nat.le_max_right _ _)
theorem bls_mem {ns : List Nat} (h : ns ≠ []) : ∃ n ∈ ns, blen n = bls ns := by
  induction ns with
  | nil => exact absurd rfl h
  | cons m r ih =>
    by_cases hr : r = []
    · subst hr
      exact ⟨m, List.mem_cons_self, by simp [bls]⟩
    · obtain ⟨n, hn, e⟩ := ih hr
      rcases Nat.le_total (blen m) (bls r) with q | q
      · exact ⟨n, List.mem_cons_of_mem _ hn, by rw [e]; exact (Nat.max_eq_right q).symm⟩
      · exact ⟨m, List.mem_cons_self, (Nat.max_eq_left q).symm⟩
theorem bls_max {ns : List Nat} {m : Int} (h : (ns.map (fun n => ((blen n : Nat) : Int)) = [] ∧ m = 0) ∨ m ∈ ns.map fun n => ((blen n : Nat) : Int)) (hm : ∀ y ∈ ns.map (fun n => ((blen n : Nat) : Int)), y ≤ m) : m = (bls ns : Nat) := by
  rcases h with ⟨h, rfl⟩ | h
  · rw [List.map_eq_nil_iff.mp h]; rfl
  · obtain ⟨n, hn, rfl⟩ := List.mem_map.mp h
    obtain ⟨k, hk, e⟩ := bls_mem (ns := ns) (fun z => by rw [z] at hn; cases hn)
    have h1 := hm _ (List.mem_map.mpr ⟨k, hk, rfl⟩)
    have h2 := le_bls hn
    omega
def bitAt (ns : List Nat) (k : Nat) : List Nat := ns.map fun n => n / 2 ^ k % 2
theorem bitAt_bits (ns : List Nat) (k : Nat) : Bits (bitAt ns k) := fun d h => by
  obtain ⟨n, _, rfl⟩ := List.mem_map.mp h
  exact Nat.mod_lt _ (by decide)
theorem bitAt_len (ns : List Nat) (k : Nat) : (bitAt ns k).length = ns.length := by simp [bitAt]
def wd (ns : List Nat) : List Nat := (List.range (bls ns)).map fun k => lo (bitAt ns k)
theorem wd_len (ns : List Nat) : (wd ns).length = bls ns := by simp [wd]
theorem wd_get {ns : List Nat} {k : Nat} (h : k < bls ns) : (wd ns)[k]? = some (lo (bitAt ns k)) := by simp [wd, h]
theorem wd_lt {ns : List Nat} {l : Nat} (h : l ∈ wd ns) : l < 2 ^ ns.length := by
  obtain ⟨k, _, rfl⟩ := List.mem_map.mp h
  have := lo_lt (bitAt_bits ns k)
  rwa [bitAt_len] at this
theorem bitAt_ge {ns : List Nat} {k : Nat} (h : bls ns ≤ k) : bitAt ns k = List.replicate ns.length 0 := by
  refine List.ext_getElem (by simp [bitAt]) fun i h1 h2 => ?_
  simp only [bitAt, List.getElem_map, List.getElem_replicate]
  have h3 : i < ns.length := by simpa [bitAt] using h1
  have h4 : ns[i] < 2 ^ k := Nat.lt_of_lt_of_le (lt_blen _) (Nat.pow_le_pow_right (by decide) (Nat.le_trans (le_bls (List.getElem_mem h3)) h))
  rw [Nat.div_eq_of_lt h4]
theorem lo_zeros : ∀ w : Nat, lo (List.replicate w 0) = 0
  | 0 => rfl
  | w + 1 => by
    show 0 + 2 * lo (List.replicate w 0) = 0
    rw [lo_zeros w]
theorem lo_bitAt_ge {ns : List Nat} {k : Nat} (h : bls ns ≤ k) : lo (bitAt ns k) = 0 := by rw [bitAt_ge h, lo_zeros]
theorem lo_ne : ∀ {ds : List Nat}, (∃ d ∈ ds, d ≠ 0) → lo ds ≠ 0
  | [], ⟨_, h, _⟩ => nomatch h
  | x :: r, ⟨d, h, hd⟩ => by
    show x + 2 * lo r ≠ 0
    rcases List.mem_cons.mp h with rfl | h
    · omega
    · have := lo_ne ⟨d, h, hd⟩
      omega
theorem wd_snoc {ns : List Nat} (h : 0 < bls ns) : ∃ r, wd ns = r ++ [lo (bitAt ns (bls ns - 1))] := by
  obtain ⟨n, e⟩ : ∃ n, bls ns = n + 1 := ⟨bls ns - 1, by omega⟩
  refine ⟨(List.range n).map fun k => lo (bitAt ns k), ?_⟩
  unfold wd
  rw [e, List.range_succ, List.map_append]
  rfl
theorem wd_last {ns : List Nat} (h : 0 < bls ns) : lo (bitAt ns (bls ns - 1)) ≠ 0 := by
  obtain ⟨n, hn, e⟩ := bls_mem (ns := ns) (fun z => by rw [z] at h; exact absurd h (by decide))
  have n0 : n ≠ 0 := fun z => by
    rw [z, blen_zero] at e
    omega
  refine lo_ne ⟨n / 2 ^ (bls ns - 1) % 2, List.mem_map.mpr ⟨n, hn, rfl⟩, ?_⟩
  rw [← e, blen_top n0]
  decide
def un (word : List Nat) (w : Nat) : List Nat := (List.range w).map fun t => lo (bitAt word t)
theorem bitAt_wd (ns : List Nat) (z t : Nat) (ht : t < ns.length) : lo (bitAt (wd ns ++ List.replicate z 0) t) = ns[t] := by
  have e : bitAt (wd ns ++ List.replicate z 0) t = bitsL ns[t] (bls ns) ++ List.replicate z 0 := by
    unfold bitAt
    rw [List.map_append, List.map_replicate, Nat.zero_div]
    congr 1
    unfold wd bitsL
    rw [List.map_map]
    refine List.map_congr_left fun k _ => ?_
    show lo (bitAt ns k) / 2 ^ t % 2 = _
    rw [lo_bit t (bitAt_bits ns k), List.getD_eq_getElem?_getD, bitAt, List.getElem?_map, List.getElem?_eq_getElem ht]
    rfl
  rw [e, lo_app, lo_zeros, Nat.mul_zero, Nat.add_zero]
  exact lo_bitsL_of (Nat.lt_of_lt_of_le (lt_blen _) (Nat.pow_le_pow_right (by decide) (le_bls (List.getElem_mem ht))))
theorem un_wd (ns : List Nat) (z : Nat) : un (wd ns ++ List.replicate z 0) ns.length = ns := by
  refine List.ext_getElem (by simp [un]) fun i h1 h2 => ?_
  simp only [un, List.getElem_map, List.getElem_range]
  exact bitAt_wd ns z i h2
/-! letters with a track more -/
def wt (l t v : Nat) : Nat := l % 2 ^ t + 2 ^ t * (v + 2 * (l / 2 ^ t))
theorem wt_mod {l t v : Nat} : wt l t v % 2 ^ t = l % 2 ^ t := by
  unfold wt
  rw [Nat.add_mul_mod_self_left, Nat.mod_mod]
theorem wt_div {l t v : Nat} : wt l t v / 2 ^ t = v + 2 * (l / 2 ^ t) := by
  unfold wt
  have hp : 0 < 2 ^ t := Nat.two_pow_pos _
  rw [Nat.add_mul_div_left _ _ hp, Nat.div_eq_of_lt (Nat.mod_lt _ hp), Nat.zero_add]
theorem wt_or {l t v : Nat} (hv : v < 2) : (l % 2 ^ t ||| v * 2 ^ t) ||| l / 2 ^ t * 2 ^ (t + 1) = wt l t v := by
  have hp : 0 < 2 ^ t := Nat.two_pow_pos _
  have h1 : l % 2 ^ t < 2 ^ t := Nat.mod_lt _ hp
  have e1 : l % 2 ^ t ||| v * 2 ^ t = 2 ^ t * v + l % 2 ^ t := by
    rw [Nat.or_comm, Nat.mul_comm, Nat.two_pow_add_eq_or_of_lt h1]
  have h2 : 2 ^ t * v + l % 2 ^ t < 2 ^ (t + 1) := by
    rw [Nat.pow_succ]
    have : 2 ^ t * v ≤ 2 ^ t * 1 := Nat.mul_le_mul_left _ (by omega)
    omega
  rw [e1, Nat.or_comm, Nat.mul_comm (l / 2 ^ t), ← Nat.two_pow_add_eq_or_of_lt h2, Nat.pow_succ]
  unfold wt
  rw [Nat.mul_add, Nat.mul_assoc]
  omega
def wo (l t : Nat) : Nat := l % 2 ^ t + 2 ^ t * (l / 2 ^ (t + 1))
theorem wo_or {l t : Nat} : (l % 2 ^ t ||| l / 2 ^ (t + 1) * 2 ^ t) = wo l t := by
  have hp : 0 < 2 ^ t := Nat.two_pow_pos _
  have h1 : l % 2 ^ t < 2 ^ t := Nat.mod_lt _ hp
  unfold wo
  rw [Nat.or_comm, Nat.mul_comm, ← Nat.two_pow_add_eq_or_of_lt h1]
  omega
theorem wo_wt {l t v : Nat} (hv : v < 2) : wo (wt l t v) t = l := by
  unfold wo
  rw [wt_mod, Nat.pow_succ, ← Nat.div_div_eq_div_mul, wt_div]
  have : (v + 2 * (l / 2 ^ t)) / 2 = l / 2 ^ t := by omega
  rw [this, Nat.mod_add_div]
theorem wt_lo {l w t v : Nat} (hl : l < 2 ^ w) (ht : t ≤ w) : lo ((bitsL l w).take t ++ [v] ++ (bitsL l w).drop t) = wt l t v := by
  have e1 : (bitsL l w).take t = bitsL l t := by
    unfold bitsL
    rw [← List.map_take, List.take_range, Nat.min_eq_left ht]
  have e2 : lo ((bitsL l w).drop t) = l / 2 ^ t := by
    have h := lo_app ((bitsL l w).take t) ((bitsL l w).drop t)
    rw [List.take_append_drop, lo_bitsL_of hl, e1, lo_bitsL, bitsL_len] at h
    have h2 := Nat.mod_add_div l (2 ^ t)
    have hp : 0 < 2 ^ t := Nat.two_pow_pos _
    have h3 : 2 ^ t * lo ((bitsL l w).drop t) = 2 ^ t * (l / 2 ^ t) := by omega
    exact Nat.eq_of_mul_eq_mul_left hp h3
  rw [lo_app, lo_app, e2, e1, lo_bitsL, List.length_append, bitsL_len]
  show l % 2 ^ t + 2 ^ t * (v + 2 * 0) + 2 ^ (t + 1) * (l / 2 ^ t) = wt l t v
  unfold wt
  rw [Nat.pow_succ, Nat.mul_add, Nat.mul_add, Nat.mul_assoc]
  omega
/-! the same of Python's ints -/
theorem i_dig (n k : Nat) : Builtin.bitAnd ((n : Int) / 2 ^ k) 1 = ((n / 2 ^ k % 2 : Nat) : Int) := by
  have e : (n : Int) / 2 ^ k = ((n / 2 ^ k : Nat) : Int) := by rw [Int.natCast_ediv, PySem.W.kbt_cast]
  have h := PySem.W.kbt_mask ((n : Int) / 2 ^ k) 1
  rw [show ((2 : Int) ^ 1 - 1) = 1 by decide, show ((2 : Int) ^ 1) = 2 by decide] at h
  rw [h, e, Int.natCast_emod]
  rfl
theorem i_low (n k : Nat) : Builtin.bitAnd (n : Int) (2 ^ k - 1) = ((n % 2 ^ k : Nat) : Int) := by
  rw [PySem.W.kbt_mask, Int.natCast_emod, PySem.W.kbt_cast]
theorem i_or (a b : Nat) : Builtin.bitOr (a : Int) (b : Int) = ((a ||| b : Nat) : Int) := by
  rw [bitOr_nn (Int.natCast_nonneg _) (Int.natCast_nonneg _), Int.toNat_natCast, Int.toNat_natCast]
theorem i_shl (a k : Nat) : (a : Int) * 2 ^ k = ((a * 2 ^ k : Nat) : Int) := by rw [Int.natCast_mul, PySem.W.kbt_cast]
theorem i_shr (a k : Nat) : (a : Int) / 2 ^ k = ((a / 2 ^ k : Nat) : Int) := by rw [Int.natCast_ediv, PySem.W.kbt_cast]
theorem i_one (k : Nat) : (1 : Int) * 2 ^ k = ((2 ^ k : Nat) : Int) := by rw [Int.one_mul, PySem.W.kbt_cast]
theorem shlN {n k b : Nat} (h : n < 2 ^ b) (hb : b + k ≤ 134217728) : CShl (n : Int) (k : Int) := shl_ok (by rw [Int.natAbs_natCast]; exact h) hb
/-! a comprehension without a test: a new list of what each turn gives -/
theorem lc_map {J : It} {n : Nat} {G : Hp → Prop} {Y : Nat → Hp → V → Hp → Prop} (w : Walk J n G Y) {g : TG} {te : TE} {vs : List Nat} {σ : L2.St} {H1 : Hp} {D : Addr} {Qd : Hp → Prop} (out : Nat → V) (hn : n ≤ 10000) (hD : H1 D = none)
    (hG : ∀ H, Same H1 H → G H)
    (hs : ∀ i x H H' (N : VK), i < n → Same H1 H → Y i H x H' → (∀ H2, Same H H2 → N (out i) H2) → g x (wipe σ vs) H' fun σ2 H2 => wipe σ2 vs = wipe σ vs ∧ te σ2 H2 N)
    (hd : ∀ H, Same H1 H → H D = some (.lst ((List.range n).map out)) → Qd H) : LcJ J g tYes te vs D σ H1 Qd := by
  refine lc_it w (fun i H => Same H1 H ∧ H D = some (.lst ((List.range i).map out))) ⟨same_upd hD, upd_same⟩ (fun i H _ p => hG H p.1) (fun i x H H' hi p y => ?_) fun H p => hd H p.1 p.2
  obtain ⟨s1, hDl⟩ := p
  refine hs i x H H' (fun y H4 => ∃ acc, H4 D = some (.lst acc) ∧ acc.length < sizeLine ∧ (Same H1 (upd H4 D (.lst (acc ++ [y]))) ∧ (upd H4 D (.lst (acc ++ [y]))) D = some (.lst ((List.range (i + 1)).map out)))) hi s1 y fun H2 s2 => ⟨_, s2 _ _ hDl, by rw [List.length_map, List.length_range]; exact smallt (by omega), Dw.Same.new (s1.trans s2) hD, ?_⟩
  rw [upd_same, List.range_succ, List.map_append]
  rfl
theorem blkOk_nm {N : List Str} {sc scope : Scope} {own : List (Str × Nat)} (nm : List (Str × NameKind)) (e : sc.names = nm) (h : blkC N ⟨.function, nm, false, false, []⟩ scope own = true) : BlkOk N sc scope own := by
  refine blkOk_by ?_
  unfold blkC at h ⊢
  rw [e]
  exact h
theorem sameT {K : PySem.W.Frag} {H H' : Hp} {a : Addr} {xs : List V} (s : Same H H') (h : SqT K H a xs) : SqT K H' a xs := by
  rcases h with (h | ⟨o, h⟩) | h
  · exact .inl (.inl (s _ _ h))
  · exact .inl (.inr ⟨o, s _ _ h⟩)
  · exact .inr h
theorem yat_i {xs : List V} {i : Nat} {H H' : Hp} {x : V} (h : YAt xs i H x H') : H' = H ∧ xs[i]? = some x := h
section
variable {X : Cx} (K : PySem.W.Frag)
theorem piL {tg l : Expr} {tl : TE} (hl : PE X l tl) (h : X.K = K := by rfl) : PI X tg l (iList K tl) := h ▸ pi_list hl
theorem piT {tg l : Expr} {tl : TE} (hl : PE X l tl) (h : X.K = K := by rfl) : PI X tg l (iTup K tl) := h ▸ pi_tup hl
theorem piE {e : Expr} {ta : TA} {p pos tpos : Pos} {elts : List Expr} {kk : Nat} (hg : Gl X "enumerate") (hm : X.mg "enumerate" = none) (ha : PA X [e] ta) (hs : starEach [e] X.env = [(false, eval e X.env)] := by rfl) (h : X.K = K := by rfl) :
    PI X (.Tuple elts kk tpos) (.Call (.Name "enumerate" p) [e] [] pos) (iEnum K ta) := h ▸ pi_enum hg hm ha hs
theorem sumK (hc : X.calm = true := by rfl) (h : X.K = K := by rfl) : CallR X (.builtin "sum") (rSum K) := h ▸ cr_sum hc
end
end Dw
namespace Dw
open PySem PySem.Spec PyProof.Rows L2 SX
/-- the drawing's own list at p, over the script at q -/
def Draw (K : PySem.W.Frag) (H : Hp) (p q : Addr) (ns : List Int) : Prop := (∀ H', But p H H' → SqL K H' q (ns.map V.int)) ∧ ∃ a v x : Int, H p = some (.lst [.ref q, .int a, .int v, .int x]) ∧ 0 ≤ a ∧ 0 ≤ v
theorem Draw.same {K : PySem.W.Frag} {H H' : Hp} {p q : Addr} {ns : List Int} (h : Draw K H p q ns) (e : Same H H') : Draw K H' p q ns := by
  obtain ⟨hq, a, v, x, hp, h0, h1⟩ := h
  exact ⟨fun H2 b => hq H2 ((But.of e).trans b), a, v, x, e _ _ hp, h0, h1⟩
theorem Draw.ne {K : PySem.W.Frag} {H : Hp} {p q t : Addr} {ns : List Int} (h : Draw K H p q ns) (ht : H t = none) : t ≠ p := by
  obtain ⟨_, _, _, _, hp, _⟩ := h
  exact (ne_of_none hp ht).symm
/-- a store at an address that was free before -/
theorem Draw.put {K : PySem.W.Frag} {H0 H : Hp} {p q t : Addr} {ns : List Int} {o : HO} (d : Draw K H0 p q ns) (b : But p H0 H) (h : Draw K H p q ns) (ht : H0 t = none) : Draw K (upd H t o) p q ns := by
  have n := d.ne ht
  obtain ⟨hq, _⟩ := d
  obtain ⟨_, a, v, x, hp, h0, h1⟩ := h
  exact ⟨fun H2 b2 => hq H2 ((b.new ht).trans b2), a, v, x, by rw [upd_ne n.symm]; exact hp, h0, h1⟩
theorem Draw.start {K : PySem.W.Frag} {H : Hp} {p q : Addr} {ns : List Int} (hS : SqL K H q (ns.map V.int)) (hp : H p = none) : Draw K (upd H p (.lst [.ref q, .int 0, .int 0, .int 1])) p q ns := by
  refine ⟨fun H' b => ?_, 0, 0, 1, upd_same, by decide, by decide⟩
  have s : ∀ o, H q = some o → H' q = some o := fun o e => by
    have n : q ≠ p := fun z => by rw [z, hp] at e; cases e
    exact b _ _ n (by rw [upd_ne n]; exact e)
  rcases hS with (h | ⟨o, h⟩) | h
  · exact .inl (.inl (s _ h))
  · exact .inl (.inr ⟨o, s _ h⟩)
  · exact .inr h
end Dw
namespace Dw
open PySem PySem.Spec PyProof.Rows L2 SX
/-! deep equality of data -/
theorem eqD_of {K : PySem.W.Frag} {H : Hp} {x y : V} {d : PyData} {Q : VK} (h1 : Dp K H x d) (h2 : Dp K H y d) (s : SeqAt.shaped d = true) (q : Q (.bl true) H) : rEqD K x y H Q := ⟨d, d, h1, h2, s, s, by rw [shaped_refl s]; exact q⟩
theorem neD_of {K : PySem.W.Frag} {H : Hp} {x y : V} {d : PyData} {Q : VK} (h1 : Dp K H x d) (h2 : Dp K H y d) (s : SeqAt.shaped d = true) (q : Q (.bl false) H) : rNeD K x y H Q := ⟨d, d, h1, h2, s, s, by rw [shaped_refl s]; exact q⟩
def natD (n : Nat) : PyData := .int (n : Int)
theorem nats_lay : ∀ ns : List Nat, PyData.canLayAll0 (ns.map natD) = true
  | [] => by simp [PyData.canLayAll0]
  | n :: r => by simp [PyData.canLayAll0, natD, PyData.canLay0, nats_lay r]
theorem nats_depth : ∀ ns : List Nat, PyData.depthAll (ns.map natD) = 0
  | [] => by simp [PyData.depthAll]
  | n :: r => by simp [PyData.depthAll, natD, PyData.depth, nats_depth r]
theorem nats_dp {K : PySem.W.Frag} {H : Hp} : ∀ ns : List Nat, DpAll K H (ns.map nv) (ns.map natD)
  | [] => .nil
  | _ :: r => .cons (.int _) (nats_dp r)
theorem nats_shaped (ns : List Nat) : SeqAt.shaped (.list (ns.map natD)) = true := by
  simp [SeqAt.shaped, PyData.canLay0, PyData.depth, nats_lay ns, nats_depth]
theorem nats_shapedT (ns : List Nat) : SeqAt.shaped (.tuple (ns.map natD)) = true := by
  simp [SeqAt.shaped, PyData.canLay0, PyData.depth, nats_lay ns, nats_depth]
theorem cutV_to {xs : List V} {t : Nat} (h : t ≤ xs.length) : cutV xs none (some (t : Int)) = xs.take t := by
  unfold cutV
  rw [HT.sIx_nat]
  show (xs.drop 0).take (min t xs.length - 0) = _
  rw [List.drop_zero, Nat.sub_zero, Nat.min_eq_left h]
theorem cutV_from {xs : List V} {t : Nat} (h : t ≤ xs.length) : cutV xs (some (t : Int)) none = xs.drop t := by
  unfold cutV
  rw [HT.sIx_nat]
  show (xs.drop (min t xs.length)).take (xs.length - min t xs.length) = _
  rw [Nat.min_eq_left h, List.take_of_length_le (by rw [List.length_drop]; omega)]
end Dw

namespace Dw
open PySem PySem.Spec PyProof.Rows L2 SX
theorem hu1' {A : Around} {k : Nat} (hr : Room k A) : A.units + 1 < cLine := by
  have := hr.units
  omega
/-! fields, read and stored -/
def FldR (K : PySem.W.Frag) (f : Str) : V → Hp → VK → Prop := fun x H Q => ∃ a C dx fs v, x = .ref a ∧ H a = some (.ins C dx fs) ∧ Cls K C ∧ NoAttr K C f ∧ fs.lookup f = some v ∧ Q v H
def tFd (K : PySem.W.Frag) (ta : TE) (f : Str) : TE := fun σ H Q => ta σ H fun x H1 => FldR K f x H1 Q
theorem fld_of {K : PySem.W.Frag} {f : Str} {a C dx : Addr} {fs : List (Str × V)} {v : V} {H : Hp} {Q : VK} (c : Cls K C) (n : NoAttr K C f) (h : H a = some (.ins C dx fs)) (l : fs.lookup f = some v) (q : Q v H) : FldR K f (.ref a) H Q := ⟨a, C, dx, fs, v, rfl, h, c, n, l, q⟩
def FldS (K : PySem.W.Frag) (f : Str) (x y : V) (H : Hp) (R : Hp → Prop) : Prop := ∃ a C dx fs, x = .ref a ∧ H a = some (.ins C dx fs) ∧ Cls K C ∧ NoAttr K C f ∧ fs.length < 1000 ∧ R (upd H a (.ins C dx (putF f y fs)))
def tFs (K : PySem.W.Frag) (ta tv : TE) (f : Str) : TS := fun D σ H => tv σ H fun y H1 => ta σ H1 fun x H2 => FldS K f x y H2 (D.nx σ)
theorem flds_of {K : PySem.W.Frag} {f : Str} {a C dx : Addr} {fs : List (Str × V)} {y : V} {H : Hp} {R : Hp → Prop} (c : Cls K C) (n : NoAttr K C f) (h : H a = some (.ins C dx fs)) (l : fs.length < 1000) (q : R (upd H a (.ins C dx (putF f y fs)))) : FldS K f (.ref a) y H R := ⟨a, C, dx, fs, rfl, h, c, n, l, q⟩
section
variable {X : Cx} (K : PySem.W.Frag)
theorem pe_fd {e : Expr} {ta : TE} {f : Str} {pos : Pos} (he : PE X e ta) (hb : attributeBase e f X.env (eval e X.env) = eval e X.env) (h : X.K = K := by rfl) : PE X (.Attribute e f pos) (tFd K ta f) := h ▸ pe_fld he hb
theorem ps_fldK {o value : Expr} {ta tv : TE} {f : Str} {pos pos' : Pos} (ha : PE X o ta) (hv : PE X value tv) (hs : swapsWith value (some (.Attribute o f pos')) pos.line X.env = pure false) (h : X.K = K := by rfl) : PS X (.Assign [.Attribute o f pos'] value pos) (tFs K ta tv f) := h ▸ ps_fld ha hv hs
theorem allQ (hc : X.calm = true := by rfl) (h : X.K = K := by rfl) : CallR X (.builtin "all") (rAll K) := h ▸ cr_all hc
end
/-! tables -/
structure RowsAt (H : Hp) (rs : List Addr) (T : List (List Int)) : Prop where
  len : rs.length = T.length
  at_ : ∀ (i : Nat) (a : Addr) (r : List Int), rs[i]? = some a → T[i]? = some r → H a = some (.lst (r.map V.int))
theorem RowsAt.same {H H' : Hp} {rs : List Addr} {T : List (List Int)} (h : RowsAt H rs T) (s : Same H H') : RowsAt H' rs T := ⟨h.len, fun i a r h1 h2 => s _ _ (h.at_ i a r h1 h2)⟩
theorem RowsAt.get {H : Hp} {rs : List Addr} {T : List (List Int)} {i : Nat} {r : List Int} (h : RowsAt H rs T) (e : T[i]? = some r) : ∃ a, rs[i]? = some a ∧ H a = some (.lst (r.map V.int)) := by
  have hi : i < rs.length := by
    rw [h.len]
    exact (List.getElem?_eq_some_iff.mp e).1
  exact ⟨rs[i], List.getElem?_eq_getElem hi, h.at_ i _ r (List.getElem?_eq_getElem hi) e⟩
def goodRow (n l : Nat) (r : List Int) : Bool := decide (r.length = l) && r.all fun x => decide (0 ≤ x) && decide (x < (n : Int))
def goodT (T : List (List Int)) (l : Nat) : Bool := T.all (goodRow T.length l)
/-- where state s is led to by a letter -/
def nxt (T : List (List Int)) (s l : Nat) : Nat := ((T.getD s []).getD l 0).toNat
def runT (T : List (List Int)) (s : Nat) (ls : List Nat) : Nat := ls.foldl (nxt T) s
theorem goodT_row {T : List (List Int)} {l s : Nat} (g : goodT T l = true) (h : s < T.length) : ∃ r, T[s]? = some r ∧ r.length = l ∧ ∀ x ∈ r, 0 ≤ x ∧ x < (T.length : Int) := by
  have h1 := List.all_eq_true.mp g T[s] (List.getElem_mem h)
  unfold goodRow at h1
  rw [Bool.and_eq_true, decide_eq_true_eq, List.all_eq_true] at h1
  refine ⟨T[s], List.getElem?_eq_getElem h, h1.1, fun x hx => ?_⟩
  have h2 := h1.2 x hx
  rw [Bool.and_eq_true, decide_eq_true_eq, decide_eq_true_eq] at h2
  exact h2
theorem goodT_at {T : List (List Int)} {l s a : Nat} (g : goodT T l = true) (h : s < T.length) (ha : a < l) : ∃ r, T[s]? = some r ∧ r[a]? = some ((nxt T s a : Nat) : Int) ∧ nxt T s a < T.length := by
  obtain ⟨r, e, hl, hx⟩ := goodT_row g h
  have ha' : a < r.length := by omega
  have e2 : r[a]? = some r[a] := List.getElem?_eq_getElem ha'
  have h3 := hx r[a] (List.getElem_mem ha')
  have e3 : nxt T s a = r[a].toNat := by
    unfold nxt
    have e4 : T.getD s [] = r := by rw [List.getD_eq_getElem?_getD, e, Option.getD_some]
    rw [e4, List.getD_eq_getElem?_getD, e2, Option.getD_some]
  refine ⟨r, e, ?_, by omega⟩
  rw [e2, e3, Int.toNat_of_nonneg h3.1]
theorem runT_lt {T : List (List Int)} {l : Nat} (g : goodT T l = true) : ∀ (ls : List Nat) (s : Nat), (∀ x ∈ ls, x < l) → s < T.length → runT T s ls < T.length
  | [], _, _, h => h
  | x :: r, s, hl, h => by
    obtain ⟨_, _, _, h2⟩ := goodT_at g h (hl x List.mem_cons_self)
    exact runT_lt g r _ (fun y hy => hl y (List.mem_cons_of_mem _ hy)) h2
theorem runT_snoc (T : List (List Int)) (s : Nat) (ls : List Nat) (x : Nat) : runT T s (ls ++ [x]) = nxt T (runT T s ls) x := by
  unfold runT
  rw [List.foldl_append]
  rfl
/-! machines -/
def mflds (w : Nat) (t b : Addr) : List (Str × V) := putF "accepting" (.ref b) (putF "table" (.ref t) (putF "width" (nv w) []))
theorem kwt : ¬ (("width" : Str) = "table") := by decide +kernel
theorem kwa : ¬ (("width" : Str) = "accepting") := by decide +kernel
theorem kta : ¬ (("table" : Str) = "accepting") := by decide +kernel
theorem mf_w (w : Nat) (t b : Addr) : (mflds w t b).lookup ("width" : Str) = some (nv w) := by
  unfold mflds
  rw [lookup_putF, if_neg kwa, lookup_putF, if_neg kwt, lookup_putF, if_pos rfl]
theorem mf_t (w : Nat) (t b : Addr) : (mflds w t b).lookup ("table" : Str) = some (.ref t) := by
  unfold mflds
  rw [lookup_putF, if_neg kta, lookup_putF, if_pos rfl]
theorem mf_a (w : Nat) (t b : Addr) : (mflds w t b).lookup ("accepting" : Str) = some (.ref b) := by
  unfold mflds
  rw [lookup_putF, if_pos rfl]
theorem mf_no (w : Nat) (t b : Addr) {m : Str} (h1 : ¬ m = "width") (h2 : ¬ m = "table") (h3 : ¬ m = "accepting") : (mflds w t b).lookup m = none := by
  unfold mflds
  rw [lookup_putF, if_neg h3, lookup_putF, if_neg h2, lookup_putF, if_neg h1]
  rfl
structure MachAt (C : Addr) (H : Hp) (m : Addr) (w : Nat) (T : List (List Int)) (acc : List Bool) : Prop where
  ex : ∃ dx t b rs, H m = some (.ins C dx (mflds w t b)) ∧ H t = some (.lst (rs.map V.ref)) ∧ RowsAt H rs T ∧ H b = some (.lst (acc.map V.bl))
theorem MachAt.same {C : Addr} {H H' : Hp} {m : Addr} {w : Nat} {T : List (List Int)} {acc : List Bool} (h : MachAt C H m w T acc) (s : Same H H') : MachAt C H' m w T acc := by
  obtain ⟨dx, t, b, rs, h1, h2, h3, h4⟩ := h.ex
  exact ⟨dx, t, b, rs, s _ _ h1, s _ _ h2, h3.same s, s _ _ h4⟩
/-- what a machine must be -/
structure MOk (w : Nat) (T : List (List Int)) (acc : List Bool) : Prop where
  w6 : w ≤ 6
  pos : 0 < T.length
  le : T.length ≤ 400
  good : goodT T (2 ^ w) = true
  al : acc.length = T.length
  set : ∀ i, i < T.length → acc[i]? = acc[nxt T i 0]?
theorem Same.but {H H' : Hp} {p : Addr} {o : HO} (h : H p = none) (s : Same H H') : But p H (upd H' p o) := (But.of s).trans But.upd
/-- all but what is new -/
theorem same_of_but {H H' : Hp} {p : Addr} (h : H p = none) (b : But p H H') : Same H H' := fun a o e => b a o (ne_of_none e h) e
def boolD (b : Bool) : PyData := .bool b
theorem bools_lay : ∀ ns : List Bool, PyData.canLayAll0 (ns.map boolD) = true
  | [] => by simp [PyData.canLayAll0]
  | n :: r => by simp [PyData.canLayAll0, boolD, PyData.canLay0, bools_lay r]
theorem bools_depth : ∀ ns : List Bool, PyData.depthAll (ns.map boolD) = 0
  | [] => by simp [PyData.depthAll]
  | n :: r => by simp [PyData.depthAll, boolD, PyData.depth, bools_depth r]
theorem bools_dp {K : PySem.W.Frag} {H : Hp} : ∀ ns : List Bool, DpAll K H (ns.map V.bl) (ns.map boolD)
  | [] => .nil
  | _ :: r => .cons (.bl _) (bools_dp r)
theorem bools_shaped (ns : List Bool) : SeqAt.shaped (.list (ns.map boolD)) = true := by
  simp [SeqAt.shaped, PyData.canLay0, PyData.depth, bools_lay ns, bools_depth]
def intD (n : Int) : PyData := .int n
theorem ints_lay : ∀ ns : List Int, PyData.canLayAll0 (ns.map intD) = true
  | [] => by simp [PyData.canLayAll0]
  | n :: r => by simp [PyData.canLayAll0, intD, PyData.canLay0, ints_lay r]
theorem ints_depth : ∀ ns : List Int, PyData.depthAll (ns.map intD) = 0
  | [] => by simp [PyData.depthAll]
  | n :: r => by simp [PyData.depthAll, intD, PyData.depth, ints_depth r]
theorem ints_dp {K : PySem.W.Frag} {H : Hp} : ∀ ns : List Int, DpAll K H (ns.map V.int) (ns.map intD)
  | [] => .nil
  | _ :: r => .cons (.int _) (ints_dp r)
theorem ints_shaped (ns : List Int) : SeqAt.shaped (.list (ns.map intD)) = true := by
  simp [SeqAt.shaped, PyData.canLay0, PyData.depth, ints_lay ns, ints_depth]
def rowD (r : List Int) : PyData := .list (r.map intD)
theorem rows_lay : ∀ T : List (List Int), PyData.canLayAll0 (T.map rowD) = true
  | [] => by simp [PyData.canLayAll0]
  | n :: r => by simp [PyData.canLayAll0, rowD, PyData.canLay0, ints_lay n, rows_lay r]
theorem rows_depth : ∀ T : List (List Int), PyData.depthAll (T.map rowD) ≤ 1
  | [] => by simp [PyData.depthAll]
  | n :: r => by
    have := rows_depth r
    simp [PyData.depthAll, rowD, PyData.depth, ints_depth n]
    omega
theorem rows_shaped (T : List (List Int)) : SeqAt.shaped (.list (T.map rowD)) = true := by
  have := rows_depth T
  simp [SeqAt.shaped, PyData.canLay0, PyData.depth, rows_lay T]
  omega
theorem rows_dp {K : PySem.W.Frag} {H : Hp} : ∀ {rs : List Addr} {T : List (List Int)}, RowsAt H rs T → DpAll K H (rs.map V.ref) (T.map rowD)
  | [], [], _ => .nil
  | a :: rs, r :: T, h => .cons (.lst (SqL.of (h.at_ 0 a r rfl rfl)) (ints_dp r)) (rows_dp (rs := rs) (T := T) ⟨Nat.succ.inj h.len, fun i a' r' h1 h2 => h.at_ (i + 1) a' r' h1 h2⟩)
  | [], _ :: _, h => nomatch h.len
  | _ :: _, [], h => nomatch h.len
end Dw
namespace Dw
open PySem PySem.Spec PyProof.Rows L2 SX
/-- a machine at m whose parts are new -/
structure MachNew (C : Addr) (H H' : Hp) (m : Addr) (w : Nat) (T : List (List Int)) (acc : List Bool) : Prop where
  ex : ∃ dx t b rs, H' m = some (.ins C dx (mflds w t b)) ∧ H' t = some (.lst (rs.map V.ref)) ∧ RowsAt H' rs T ∧ H' b = some (.lst (acc.map V.bl)) ∧ H t = none ∧ H b = none ∧ ∀ r ∈ rs, H r = none
theorem MachNew.at_ {C : Addr} {H H' : Hp} {m : Addr} {w : Nat} {T : List (List Int)} {acc : List Bool} (h : MachNew C H H' m w T acc) : MachAt C H' m w T acc := by
  obtain ⟨dx, t, b, rs, h1, h2, h3, h4, _⟩ := h.ex
  exact ⟨dx, t, b, rs, h1, h2, h3, h4⟩
end Dw
namespace Dw
open PySem PySem.Spec PyProof.Rows L2 SX
theorem for_enumN {K : PySem.W.Frag} {a : Addr} {xs : List V} {g : TG} {tb : TS} {D : Ends} {σ : L2.St} {H : Hp} (Pv : Nat → L2.St → Hp → Prop) (h0 : Pv 0 σ H) (hl : ∀ i σ H, i ≤ xs.length → Pv i σ H → SqL K H a xs)
    (hs : ∀ i x T σ H (N : L2.St → Hp → Prop), xs[i]? = some x → Pv i σ H → H T = none → (∀ σ' H', Pv (i + 1) σ' H' → N σ' H') → g (.ref T) σ (upd H T (.tup [.int (i : Nat), x])) fun σ2 H2 => tb { D with nx := N, ct := N, bk := D.nx } σ2 H2) (hd : ∀ σ H, Pv xs.length σ H → D.nx σ H) :
    ForJ (Ite K a) g tb D σ H := for_it (walk_enum (xs := xs)) Pv h0 hl (fun i x σ H H' hi p y => by
      obtain ⟨T, v, z, rfl, hT, rfl, e1, e2⟩ := y
      cases e1
      exact hs i z T σ H (Pv (i + 1)) e2 p hT fun _ _ h => h) hd
theorem RowsAt.snoc {H : Hp} {rs : List Addr} {T : List (List Int)} {a : Addr} {r : List Int} (h : RowsAt H rs T) (e : H a = some (.lst (r.map V.int))) : RowsAt H (rs ++ [a]) (T ++ [r]) := by
  refine ⟨by rw [List.length_append, List.length_append, h.len]; rfl, fun i b q h1 h2 => ?_⟩
  by_cases hi : i < rs.length
  · rw [List.getElem?_append_left hi] at h1
    rw [List.getElem?_append_left (by rw [← h.len]; exact hi)] at h2
    exact h.at_ i b q h1 h2
  · rw [List.getElem?_append_right (by omega)] at h1
    rw [List.getElem?_append_right (by rw [← h.len]; omega), ← h.len] at h2
    cases hk : i - rs.length with
    | zero =>
      rw [hk] at h1 h2
      cases h1
      cases h2
      exact e
    | succ k =>
      rw [hk] at h1
      cases h1
theorem RowsAt.but {H H' : Hp} {rs : List Addr} {T : List (List Int)} {p : Addr} (h : RowsAt H rs T) (b : But p H H') (n : ∀ r ∈ rs, r ≠ p) : RowsAt H' rs T :=
  ⟨h.len, fun i a r h1 h2 => b _ _ (n a (List.mem_of_getElem? h1)) (h.at_ i a r h1 h2)⟩
end Dw
namespace Dw
open PySem PySem.Spec PyProof.Rows L2 SX
/-- a machine at m, its parts at L -/
def MachP (C : Addr) (H : Hp) (L : List Addr) (m : Addr) (w : Nat) (T : List (List Int)) (acc : List Bool) : Prop := ∃ dx t b rs, L = m :: t :: b :: rs ∧ H m = some (.ins C dx (mflds w t b)) ∧ H t = some (.lst (rs.map V.ref)) ∧ RowsAt H rs T ∧ H b = some (.lst (acc.map V.bl))
section
variable {C : Addr} {H H' : Hp} {L : List Addr} {m q : Addr} {w : Nat} {T : List (List Int)} {acc : List Bool}
theorem MachP.at_ (h : MachP C H L m w T acc) : MachAt C H m w T acc := by
  obtain ⟨dx, t, b, rs, _, h1, h2, h3, h4⟩ := h
  exact ⟨dx, t, b, rs, h1, h2, h3, h4⟩
theorem MachP.but (h : MachP C H L m w T acc) (b : But q H H') (n : q ∉ L) : MachP C H' L m w T acc := by
  obtain ⟨dx, t, a, rs, rfl, h1, h2, h3, h4⟩ := h
  simp only [List.mem_cons, not_or] at n
  exact ⟨dx, t, a, rs, rfl, b _ _ (fun e => n.1 e.symm) h1, b _ _ (fun e => n.2.1 e.symm) h2, h3.but b fun r hr e => n.2.2.2 (e ▸ hr), b _ _ (fun e => n.2.2.1 e.symm) h4⟩
theorem MachP.same (h : MachP C H L m w T acc) (s : Same H H') : MachP C H' L m w T acc := by
  obtain ⟨dx, t, a, rs, rfl, h1, h2, h3, h4⟩ := h
  exact ⟨dx, t, a, rs, rfl, s _ _ h1, s _ _ h2, h3.same s, s _ _ h4⟩
theorem RowsAt.some {H : Hp} {rs : List Addr} {T : List (List Int)} {a : Addr} (h : RowsAt H rs T) (ha : a ∈ rs) : ∃ r, r ∈ T ∧ H a = some (.lst (r.map V.int)) := by
  obtain ⟨i, hi, e⟩ := List.mem_iff_getElem.mp ha
  have hi2 : i < T.length := by rw [← h.len]; exact hi
  exact ⟨T[i], List.getElem_mem hi2, h.at_ i a T[i] (by rw [List.getElem?_eq_getElem hi, e]) (List.getElem?_eq_getElem hi2)⟩
theorem MachP.free (h : MachP C H L m w T acc) (hq : H q = none) : q ∉ L := by
  obtain ⟨dx, t, a, rs, rfl, h1, h2, h3, h4⟩ := h
  intro z
  simp only [List.mem_cons] at z
  rcases z with rfl | rfl | rfl | z
  · rw [hq] at h1; cases h1
  · rw [hq] at h2; cases h2
  · rw [hq] at h4; cases h4
  · obtain ⟨r, _, e⟩ := h3.some z
    rw [hq] at e; cases e
theorem MachNew.parts (h : MachNew C H H' m w T acc) : ∃ L, MachP C H' L m w T acc ∧ ∀ a ∈ L, a = m ∨ H a = none := by
  obtain ⟨dx, t, b, rs, h1, h2, h3, h4, n1, n2, n3⟩ := h.ex
  refine ⟨_, ⟨dx, t, b, rs, rfl, h1, h2, h3, h4⟩, fun a ha => ?_⟩
  simp only [List.mem_cons] at ha
  rcases ha with rfl | rfl | rfl | z
  · exact .inl rfl
  · exact .inr n1
  · exact .inr n2
  · exact .inr (n3 a z)
theorem notin_of {o : HO} (h : ∀ a ∈ L, H a = none) (hq : H q = some o) : q ∉ L := fun z => by
  rw [h q z] at hq
  cases hq
end
end Dw

namespace Dw
open PySem PySem.Spec PyProof.Rows L2 SX
/-! a ring that is walked twice -/
def it (f : Nat → Nat) : Nat → Nat → Nat
  | 0, s => s
  | k + 1, s => it f k (f s)
theorem it_add (f : Nat → Nat) : ∀ (a b s : Nat), it f (a + b) s = it f b (it f a s)
  | 0, b, s => by rw [Nat.zero_add]; rfl
  | a + 1, b, s => by
    rw [Nat.add_right_comm]
    exact it_add f a b (f s)
theorem it_succ (f : Nat → Nat) (k s : Nat) : it f (k + 1) s = f (it f k s) := it_add f k 1 s
theorem it_lt {f : Nat → Nat} {n : Nat} (hf : ∀ x, x < n → f x < n) : ∀ (k s : Nat), s < n → it f k s < n
  | 0, _, h => h
  | k + 1, s, h => it_lt hf k (f s) (hf s h)
theorem pigeon : ∀ (n : Nat) (f : Nat → Nat), (∀ i, i ≤ n → f i < n) → ∃ i j, i < j ∧ j ≤ n ∧ f i = f j
  | 0, f, h => absurd (h 0 (Nat.le_refl 0)) (Nat.not_lt_zero _)
  | n + 1, f, h => by
    by_cases hv : ∃ i, i ≤ n ∧ f i = f (n + 1)
    · obtain ⟨i, hi, e⟩ := hv
      exact ⟨i, n + 1, by omega, Nat.le_refl _, e⟩
    · have hne : ∀ i, i ≤ n → f i ≠ f (n + 1) := fun i hi e => hv ⟨i, hi, e⟩
      have hl := h (n + 1) (Nat.le_refl _)
      obtain ⟨i, j, hij, hj, e⟩ := pigeon n (fun i => if f i = n then f (n + 1) else f i) (fun i hi => by
        have h1 := h i (by omega)
        have h2 := hne i hi
        show (if f i = n then f (n + 1) else f i) < n
        split
        · rename_i q
          omega
        · omega)
      refine ⟨i, j, hij, by omega, ?_⟩
      have h1 := hne i (by omega)
      have h2 := hne j hj
      split at e <;> split at e <;> omega
def ringL (f : Nat → Nat) (n s : Nat) : List Nat := (List.range (n + 1)).map fun j => it f (n + j) s
theorem ringL_mem {f : Nat → Nat} {n s x : Nat} : x ∈ ringL f n s ↔ ∃ j, j ≤ n ∧ it f (n + j) s = x := by
  unfold ringL
  rw [List.mem_map]
  constructor
  · rintro ⟨j, hj, e⟩
    exact ⟨j, by have := List.mem_range.mp hj; omega, e⟩
  · rintro ⟨j, hj, e⟩
    exact ⟨j, List.mem_range.mpr (by omega), e⟩
theorem ring_same {f : Nat → Nat} {n s x : Nat} (hf : ∀ x, x < n → f x < n) (hs : s < n) : x ∈ ringL f n s ↔ x ∈ ringL f n (f s) := by
  obtain ⟨a, b, hab, hb, e⟩ := pigeon n (fun i => it f i s) fun i _ => it_lt hf i s hs
  have per : ∀ k, a ≤ k → it f (k + (b - a)) s = it f k s := fun k hk => by
    have e1 : k + (b - a) = b + (k - a) := by omega
    have e2 : k = a + (k - a) := by omega
    rw [e1, it_add, ← (show it f a s = it f b s from e), ← it_add, ← e2]
  have nx : ∀ j, it f (n + j) (f s) = it f (n + 1 + j) s := fun j => by
    have : n + 1 + j = (n + j) + 1 := by omega
    rw [this]
    rfl
  rw [ringL_mem, ringL_mem]
  constructor
  · rintro ⟨j, hj, rfl⟩
    by_cases h0 : j = 0
    · subst h0
      refine ⟨b - a - 1, by omega, ?_⟩
      have e2 : n + 1 + (b - a - 1) = n + (b - a) := by omega
      rw [nx, e2, per n (by omega)]
      rfl
    · refine ⟨j - 1, by omega, ?_⟩
      rw [nx]
      congr 1
      omega
  · rintro ⟨j, hj, rfl⟩
    rw [nx]
    by_cases h0 : j = n
    · subst h0
      refine ⟨j + 1 - (b - a), by omega, ?_⟩
      rw [← per (j + (j + 1 - (b - a))) (by omega)]
      congr 1
      omega
    · exact ⟨j + 1, by omega, by congr 1; omega⟩
def IsMin (m : Nat) (L : List Nat) : Prop := m ∈ L ∧ ∀ y ∈ L, m ≤ y
theorem IsMin.eq {m k : Nat} {L M : List Nat} (h : IsMin m L) (h' : IsMin k M) (e : ∀ x, x ∈ L ↔ x ∈ M) : m = k :=
  Nat.le_antisymm (h.2 _ ((e _).mpr h'.1)) (h'.2 _ ((e _).mp h.1))
/-! told words -/
structure TOk (T : List (List Int)) (outs : List Int) : Prop where
  pos : 0 < T.length
  le : T.length ≤ 40
  al : outs.length = T.length
  rng : ∀ o ∈ outs, 0 ≤ o ∧ o ≤ 9
  good : goodT T 2 = true
  set : ∀ i, i < T.length → outs[i]? = outs[nxt T i 0]?
theorem TOk.nx {T : List (List Int)} {outs : List Int} (h : TOk T outs) {s d : Nat} (hs : s < T.length) (hd : d < 2) : nxt T s d < T.length := by
  obtain ⟨_, _, _, h2⟩ := goodT_at h.good hs hd
  exact h2
theorem TOk.zeros {T : List (List Int)} {outs : List Int} (h : TOk T outs) : ∀ (z s : Nat), s < T.length → outs[runT T s (List.replicate z 0)]? = outs[s]?
  | 0, _, _ => rfl
  | z + 1, s, hs => by
    show outs[runT T (nxt T s 0) (List.replicate z 0)]? = _
    rw [h.zeros z _ (h.nx hs (by decide)), ← h.set s hs]
/-- the digits of a number -/
def dg (n : Nat) : List Nat := bitsL n (blen n)
theorem dg_zero : dg 0 = [] := rfl
theorem blen_half {n : Nat} (h : n ≠ 0) : blen n = blen (n / 2) + 1 := by
  have h1 := lt_blen (n / 2)
  have h2 : n < 2 ^ (blen (n / 2) + 1) := by
    rw [Nat.pow_succ]
    omega
  have h3 := blen_le h2
  obtain ⟨k, e⟩ : ∃ k, blen n = k + 1 := ⟨n.log2, blen_pos h⟩
  have h4 := lt_blen n
  rw [e, Nat.pow_succ] at h4
  have h5 : blen (n / 2) ≤ k := blen_le (by omega)
  omega
theorem dg_pos {n : Nat} (h : n ≠ 0) : dg n = n % 2 :: dg (n / 2) := by
  unfold dg
  rw [blen_half h, bitsL_succ]
theorem dg_bits (n : Nat) : Bits (dg n) := bitsL_bits _ _
theorem bits_pad : ∀ (n k : Nat), bitsL n (blen n + k) = dg n ++ List.replicate k 0 := fun n k => by
  unfold dg
  refine List.ext_getElem (by simp [bitsL_len]) fun i h1 h2 => ?_
  by_cases hi : i < blen n
  · rw [List.getElem_append_left (by rw [bitsL_len]; exact hi)]
    simp only [bitsL, List.getElem_map, List.getElem_range]
  · rw [List.getElem_append_right (by rw [bitsL_len]; omega)]
    simp only [bitsL, List.getElem_map, List.getElem_range, List.getElem_replicate]
    have : n < 2 ^ i := Nat.lt_of_lt_of_le (lt_blen n) (Nat.pow_le_pow_right (by decide) (by omega))
    rw [Nat.div_eq_of_lt this]
theorem runT_app (T : List (List Int)) (s : Nat) (a b : List Nat) : runT T s (a ++ b) = runT T (runT T s a) b := by
  unfold runT
  rw [List.foldl_append]
/-- a copied table -/
theorem lc_copy {K : PySem.W.Frag} {t : Addr} {rs : List Addr} {T : List (List Int)} {g : TG} {te : TE} {vs : List Nat} {σ : L2.St} {H1 : Hp} {D : Addr} {Qd : Hp → Prop} (h1 : H1 t = some (.lst (rs.map V.ref))) (hr : RowsAt H1 rs T) (hn : T.length ≤ 500) (hD : H1 D = none)
    (step : ∀ a (r : List Int) H (N : VK), H a = some (.lst (r.map V.int)) → (∀ L, H L = none → N (.ref L) (upd H L (.lst (r.map V.int)))) → g (.ref a) (wipe σ vs) H fun σ2 H2 => wipe σ2 vs = wipe σ vs ∧ te σ2 H2 N)
    (hd : ∀ H' qs, Same H1 H' → H' D = some (.lst (qs.map V.ref)) → RowsAt H' qs T → (∀ q ∈ qs, H1 q = none ∧ q ≠ D) → Qd H') : LcJ (Itl K t) g tYes te vs D σ H1 Qd := by
  refine lc_listN (xs := rs.map V.ref) (fun i H4 => ∃ qs : List Addr, H4 D = some (.lst (qs.map V.ref)) ∧ RowsAt H4 qs (T.take i) ∧ Same H1 H4 ∧ ∀ q ∈ qs, H1 q = none ∧ q ≠ D) ?_ ?_ ?_ ?_
  · exact ⟨[], upd_same, ⟨rfl, fun i a r h _ => nomatch h⟩, same_upd hD, fun _ h => nomatch h⟩
  · rintro i H4 _ ⟨qs, _, _, s4, _⟩
    exact SqL.of (s4 _ _ h1)
  · rintro i x H4 N2 hx ⟨qs, h4, q4, s4, n4⟩ hN2
    rw [List.getElem?_map] at hx
    obtain ⟨ra, hra, rfl⟩ := Option.map_eq_some_iff.mp hx
    have hi : i < T.length := by rw [← hr.len]; exact (List.getElem?_eq_some_iff.mp hra).1
    have hTi : T[i]? = some T[i] := List.getElem?_eq_getElem hi
    have hrow := s4 _ _ (hr.at_ i ra T[i] hra hTi)
    have hql : qs.length ≤ 500 := by
      have := q4.len
      rw [List.length_take] at this
      omega
    refine step ra T[i] H4 (fun y H5 => ∃ acc, H5 D = some (.lst acc) ∧ acc.length < sizeLine ∧ N2 (upd H5 D (.lst (acc ++ [y])))) hrow fun L hL => ⟨_, (same_upd hL) _ _ h4, smallt (by rw [List.length_map]; omega), hN2 _ ⟨qs ++ [L], ?_, ?_, ?_, ?_⟩⟩
    · rw [upd_same, List.map_append]
      rfl
    · have hLD : L ≠ D := (ne_of_none h4 hL).symm
      rw [List.take_add_one, hTi]
      refine RowsAt.but (RowsAt.snoc (q4.same (same_upd hL)) upd_same) But.upd fun q hq => ?_
      rcases List.mem_append.mp hq with hq | hq
      · exact (n4 q hq).2
      · rw [List.mem_singleton.mp hq]
        exact hLD
    · exact Dw.Same.new (s4.trans (same_upd hL)) hD
    · intro q hq
      rcases List.mem_append.mp hq with hq | hq
      · exact n4 q hq
      · rw [List.mem_singleton.mp hq]
        exact ⟨s4.free hL, (ne_of_none h4 hL).symm⟩
  · rintro H4 ⟨qs, h4, q4, s4, n4⟩
    rw [List.length_map, hr.len, List.take_length] at q4
    exact hd H4 qs s4 h4 q4 n4
section
variable {X : Cx} (K : PySem.W.Frag)
theorem minK (hc : X.calm = true := by rfl) (h : X.K = K := by rfl) : CallR X (.builtin "min") (rMin K) := h ▸ cr_min hc
end
end Dw

namespace Dw
open PySem PySem.Spec PyProof.Rows L2 SX
theorem Same.get {H H' : Hp} {a : Addr} {o : HO} (s : Same H H') (h : H a = some o) : H' a = some o := s _ _ h
theorem But.get {p : Addr} {H H' : Hp} {a : Addr} {o : HO} (b : But p H H') (n : a ≠ p) (h : H a = some o) : H' a = some o := b _ _ n h
theorem Same.none {H H' : Hp} {a : Addr} (s : Same H H') (h : H' a = none) : H a = none := s.free h
theorem But.none {p : Addr} {H H' : Hp} {a : Addr} (b : But p H H') (n : a ≠ p) (h : H' a = none) : H a = none := by
  cases e : H a with
  | none => rfl
  | some o =>
    have := b _ _ n e
    rw [h] at this
    cases this
def tflds (o t : Addr) : List (Str × V) := putF "table" (.ref t) (putF "outputs" (.ref o) [])
theorem kot : ¬ (("outputs" : Str) = "table") := by decide +kernel
theorem tf_o (o t : Addr) : (tflds o t).lookup ("outputs" : Str) = some (.ref o) := by
  unfold tflds
  rw [lookup_putF, if_neg kot, lookup_putF, if_pos rfl]
theorem tf_t (o t : Addr) : (tflds o t).lookup ("table" : Str) = some (.ref t) := by
  unfold tflds
  rw [lookup_putF, if_pos rfl]
theorem tf_no (o t : Addr) {m : Str} (h1 : ¬ m = "outputs") (h2 : ¬ m = "table") : (tflds o t).lookup m = none := by
  unfold tflds
  rw [lookup_putF, if_neg h2, lookup_putF, if_neg h1]
  rfl
/-- a told word at m, its parts at L -/
def ToldP (C : Addr) (H : Hp) (L : List Addr) (m : Addr) (T : List (List Int)) (outs : List Int) : Prop := ∃ dx o t rs, L = m :: o :: t :: rs ∧ H m = some (.ins C dx (tflds o t)) ∧ H o = some (.lst (outs.map V.int)) ∧ H t = some (.lst (rs.map V.ref)) ∧ RowsAt H rs T
section
variable {C : Addr} {H H' : Hp} {L : List Addr} {m q : Addr} {T : List (List Int)} {outs : List Int}
theorem ToldP.but (h : ToldP C H L m T outs) (b : But q H H') (n : q ∉ L) : ToldP C H' L m T outs := by
  obtain ⟨dx, o, t, rs, rfl, h1, h2, h3, h4⟩ := h
  simp only [List.mem_cons, not_or] at n
  exact ⟨dx, o, t, rs, rfl, b _ _ (fun e => n.1 e.symm) h1, b _ _ (fun e => n.2.1 e.symm) h2, b _ _ (fun e => n.2.2.1 e.symm) h3, h4.but b fun r hr e => n.2.2.2 (e ▸ hr)⟩
theorem ToldP.same (h : ToldP C H L m T outs) (s : Same H H') : ToldP C H' L m T outs := by
  obtain ⟨dx, o, t, rs, rfl, h1, h2, h3, h4⟩ := h
  exact ⟨dx, o, t, rs, rfl, s _ _ h1, s _ _ h2, s _ _ h3, h4.same s⟩
theorem ToldP.free (h : ToldP C H L m T outs) (hq : H q = none) : q ∉ L := by
  obtain ⟨dx, o, t, rs, rfl, h1, h2, h3, h4⟩ := h
  intro z
  simp only [List.mem_cons] at z
  rcases z with rfl | rfl | rfl | z
  · rw [hq] at h1; cases h1
  · rw [hq] at h2; cases h2
  · rw [hq] at h3; cases h3
  · obtain ⟨r, _, e⟩ := h4.some z
    rw [hq] at e; cases e
end
/-- a row of a table, changed nowhere else -/
theorem RowsAt.not {H : Hp} {rs : List Addr} {T : List (List Int)} {q : Addr} (h : RowsAt H rs T) (hq : ∀ r : List Int, H q ≠ Option.some (.lst (r.map V.int))) : q ∉ rs := fun z => by
  obtain ⟨r, _, e⟩ := h.some z
  exact hq r e
theorem RowsAt.free {H : Hp} {rs : List Addr} {T : List (List Int)} {q : Addr} (h : RowsAt H rs T) (hq : H q = none) : q ∉ rs := fun z => by
  obtain ⟨r, _, e⟩ := h.some z
  rw [hq] at e
  cases e
/-- the output that a word has at a number -/
def outOf (T : List (List Int)) (outs : List Int) (n : Nat) : Int := outs.getD (runT T 0 (dg n)) 0
theorem TOk.run {T : List (List Int)} {outs : List Int} (h : TOk T outs) {ds : List Nat} (b : Bits ds) : runT T 0 ds < T.length := runT_lt h.good ds 0 b h.pos
theorem TOk.at_ {T : List (List Int)} {outs : List Int} (h : TOk T outs) {s : Nat} (hs : s < T.length) : outs[s]? = some (outs.getD s 0) := by
  rw [List.getD_eq_getElem?_getD, List.getElem?_eq_getElem (by rw [h.al]; exact hs)]
  rfl
theorem TOk.pad {T : List (List Int)} {outs : List Int} (h : TOk T outs) (n k : Nat) : outs[runT T 0 (bitsL n (blen n + k))]? = some (outOf T outs n) := by
  rw [bits_pad, runT_app, h.zeros k _ (h.run (dg_bits n)), h.at_ (h.run (dg_bits n))]
  rfl
theorem bitsL_snoc (n k : Nat) : bitsL n (k + 1) = bitsL n k ++ [n / 2 ^ k % 2] := by
  unfold bitsL
  rw [List.range_succ, List.map_append]
  rfl
theorem wd_dg (n : Nat) : wd [n] = dg n := by
  unfold dg wd bitsL bitAt bls bls
  rw [Nat.max_eq_left (Nat.zero_le _)]
  refine List.map_congr_left fun k _ => ?_
  show n / 2 ^ k % 2 + 2 * 0 = _
  omega
theorem TOk.mach {T : List (List Int)} {outs : List Int} (h : TOk T outs) (o : Int) : MOk 1 T (outs.map fun x => decide (x = o)) := by
  refine ⟨by decide, h.pos, by have := h.le; omega, h.good, by rw [List.length_map, h.al], fun i hi => ?_⟩
  rw [List.getElem?_map, List.getElem?_map, h.set i hi]
theorem TOk.acc {T : List (List Int)} {outs : List Int} (h : TOk T outs) (o : Int) (n : Nat) : (outs.map fun x => decide (x = o)).getD (runT T 0 (wd [n])) false = decide (outOf T outs n = o) := by
  rw [wd_dg, List.getD_eq_getElem?_getD, List.getElem?_map, h.at_ (h.run (dg_bits n))]
  rfl
end Dw
namespace Dw
open PySem PySem.Spec PyProof.Rows L2 SX
theorem ixN_at {n j : Nat} (hj : j < n) : ixN n (j : Int) = some j := by
  unfold ixN
  rw [if_pos (by omega), if_pos (by omega)]
  simp
theorem setL_of {p : Addr} {xs : List V} {j : Nat} {v : V} {H : Hp} {R : Hp → Prop} (h : H p = some (.lst xs)) (hj : j < xs.length) (q : R (upd H p (.lst (xs.set j v)))) : L2.rSetL (.ref p) (.int (j : Nat)) v H R := ⟨p, xs, j, j, rfl, rfl, h, ixN_at hj, q⟩
end Dw

namespace Dw
open PySem PySem.Spec PySem.Calls PyProof.Rows PySem.W
/-! isinstance of a caught error that bears a field -/
section
variable {prog : Program} {w : World} {A : Around} {E : Value → Shared → Prop} {s : Shared} {K : Frag} {b C : Addr} {ob : Obj} {od : Option Obj}
theorem fo_data {n : Str} {a g : Value} (h1 : (clsIn K C).isSome = true) (h2 : findIn K (.ref C) n = some (some a)) (h3 : specialIn K a "__get__" = some (some g)) (h4 : takesIn K a = some true) : findObj K C od n = some (.bind g a) := by
  obtain ⟨cd, h1⟩ := Option.isSome_iff_exists.mp h1
  unfold findObj
  rw [h1, Option.bind_some, h2, Option.bind_some]
  simp [h3, h4]
theorem cls_asked {Q : Option Value → Shared → Prop} (T : L2.ExcC K C) (X : K.In s.heap) (I : InstAt s.heap b ob C od) (h : Q (some (.ref C)) { s with toks := s.toks + 1 }) : wpAny (model prog w) A (getAttr? (.ref b) "__class__") Q E s := by
  have found : findObj K C od "__class__" = some (.bind (.builtin "getset_descriptor.__get__") (.builtin "object.__class__")) :=
    fo_data (by obtain ⟨cd, hc, _⟩ := any_some T.hd; rw [hc]; rfl) T.ha T.hn T.ht
  obtain ⟨h0, gs, dr, tk, os⟩ := s
  have M0 := I.type (M := model prog w)
  have M1 := looks_findIn (M := model prog w) X T.hg
  have M2 := looks_findIn (M := model prog w) X T.hk
  have M3 := looks_find (M := model prog w) X I found
  have isb : Looks (model prog w) h0 (isInstance (.ref b) (.type "BaseException")) true := M0.andThen (looks_subIn X T.hs)
  have e0 : (false && onTheHeap (Value.builtin "BaseException.__getattribute__")) = false := rfl
  have e2 : (Value.builtin "BaseException.__getattribute__" == Value.builtin "object.__getattribute__") = false := by decide +kernel
  have e1 : (onTheHeap (Value.ref C) && Value.builtin "BaseException.__getattribute__" == Value.builtin "object.__getattribute__") = false := by rw [e2]; rfl
  unfold getAttr? getAttrBy? getAttrBy
  refine wpAny_bind (wpAny_mkText (wpAny_bind (wpAny_attempt (wpAny_holding (wpAny_bind (M0.at (wpAny_bind (M1.at ?_))))))))
  show wpAny _ _ (if (onTheHeap (Value.ref C) && Value.builtin "BaseException.__getattribute__" == Value.builtin "object.__getattribute__") = true then _ else _) _ _ _
  rw [e1, if_neg Bool.false_ne_true]
  unfold getAttrByItsOwn hookBefore
  refine wpAny_bind ?_
  rw [if_pos (show onTheHeap (Value.ref C) = true from rfl)]
  refine M2.at ?_
  refine wpAny_bind (wpAny_attempt (wpAny_holding ?_))
  unfold callGetattribute
  rw [e0, if_neg Bool.false_ne_true]
  unfold boundAndCalled
  rw [PySem.F.excAttr_ValueError.ga.bind (.ref b)]
  refine wpAny_bind (wpAny_pure ?_)
  show wpAny _ _ (call (.builtin "BaseException.__getattribute__") [.ref b, .str "__class__" tk]) _ _ _
  refine wpAny_call (codeAny_call_builtin PySem.F.excAttr_ValueError.ga.plain PySem.F.entry_bexc_ga ?_)
  refine @check_slot (model prog w) _ _ ⟨h0, gs, dr, tk + 1, os⟩ "BaseException.__getattribute__" "BaseException" "__getattribute__" (.ref b) [.str "__class__" tk] [] _ (by decide +kernel) (by decide +kernel) isb (PySem.F.args_bexc_ga (.ref b) (.str "__class__" tk)) ?_
  unfold Builtin.«object.__getattribute__»
  refine wpAny_bind (wpAny_of_eq (a := ((Value.ref b : Value), [Value.str "__class__" tk])) (by first | rfl | (simp only [slotArgs]; rfl)) ?_)
  refine wpAny_bind (wpAny_pure (wpAny_bind (M0.at (wpAny_bind (M3.at ?_)))))
  show wpAny _ _ (holding [Value.builtin "object.__class__"] (call (.builtin "getset_descriptor.__get__") [.builtin "object.__class__", .ref b, .ref C]) >>= ret) _ _ _
  refine wpAny_bind (wpAny_holding (wpAny_call (class_get (s := ⟨h0, gs, dr, tk + 1, os⟩) (ox := ob) (od := od) X I T.hm ?_)))
  refine wpAny_pure ?_
  show wpAny _ _ (handedOut (.ref C)) _ _ _
  rw [handedOut_of (v := .ref C) rfl]
  first
    | exact wpAny_pure (wpAny_pure h)
    | exact wpAny_pure h
    | exact wpAny_pure (wpAny_bind (wpAny_pure (wpAny_pure h)))
theorem kitx_of (T : L2.ExcC K C) : KitX K (.ref b) (.ref C) (fun h => InstAt h b ob C od) where
  ty := fun _ _ _ I => I.type
  it := fun _ _ X _ => by
    obtain ⟨cd, hc, _⟩ := any_some T.hd
    unfold clsIn at hc
    split at hc
    · rename_i c1 d1 cd1 sl1 ho
      intro A1 Q1 E1 s1 k q
      unfold isType loadHead
      exact wpAny_bind (wpAny_loadPart (k _ _ (X _ _ ho)) (wpAny_pure q))
    · cases hc
  ne := fun h tp dd its n sl X htp => by
    obtain ⟨cd, hc, _⟩ := any_some T.hd
    refine Bool.eq_false_iff.mpr fun q => ?_
    obtain rfl : C = tp := Value.ref.inj (beq_iff_eq.mp q)
    unfold clsIn at hc
    split at hc
    · rename_i c1 d1 cd1 sl1 ho
      have z := (X _ _ ho).symm.trans htp
      cases z
    · cases hc
  ca := fun X I k => cls_asked T X I k
end
open L2
/-- isinstance(e, c), e the caught error of class C with its own dict at d -/
def rIsF (K : PySem.W.Frag) (C a : Addr) (cls : Value) (d : Option Addr) : List V → Hp → VK → Prop := fun xs H Q => ∃ (c : V) (cv : Value) (b : Bool) (dd : Addr) (fs : List (Str × V)), xs = [.ref a, c] ∧ (∀ u, RelV c u → u = cv) ∧ cls = .ref C ∧ d = some dd ∧ H dd = some (.xd fs) ∧ PySem.W.kitOne K (.ref C) cv = some b ∧ Q (.bl b) H
theorem call_isF {X : Cx} {a C : Addr} {oe : Obj} {cls : Value} {d : Option Addr} {pn : List (Addr × Obj)} (T : ExcC X.K C) (hz : Zc cls d oe) (hf : ∃ vs, oe.data = .fields vs) : CallR (X.suite a ((a, oe) :: pn)) (.builtin "isinstance") (rIsF X.K C a cls d) := by
  intro pins s σ H xs us Q I r h
  obtain ⟨c, cv, b, dd, fs, rfl, hcv, rfl, rfl, hdd, e, q⟩ := h
  obtain ⟨u1, r1, rfl, ra, rr⟩ : ∃ u1 r1, us = u1 :: r1 ∧ RelV (.ref a) u1 ∧ Vals [c] r1 := by
    cases r with
    | cons h1 h2 => exact ⟨_, _, rfl, h1, h2⟩
  obtain ⟨u2, rfl, rc⟩ := vals1 rr
  obtain rfl : u1 = Value.ref a := ra
  obtain rfl := hcv _ rc
  obtain ⟨gt, _⟩ := I.pin (a, oe) (List.mem_append_left _ List.mem_cons_self)
  obtain ⟨vs, hv⟩ := hf
  have ok : ObjOk X.prog X.w H s.heap dd (.xd fs) := I.hok dd _ hdd
  obtain ⟨mA, ns, _⟩ := ok
  obtain ⟨od, ho, _⟩ := lookIn_ns ns
  have J : PySem.W.InstAt s.heap a oe C (some od) := ⟨gt, hz.1, by unfold PySem.W.notCls; rw [hv] <;> rfl, by rw [hz.2]; exact ho⟩
  exact PySem.W.kia_one (kitx_of T) I.kIn J e (fun z => nomatch z) fun tk => ⟨.bl b, H, I.kept (t' := tk) fun _ _ z => z, rfl, q⟩
/-- a call that lets nothing out, of a def that may -/
theorem passF {X : Cx} {P : Program} {w : World} : Passes (L2.CX P w) X C8.E0 := fun _ _ _ _ _ _ _ h => by
  obtain ⟨_, _, _, _, _, _, _, _, _, _, _, _, e⟩ := h
  exact e.elim
end Dw

namespace Dw
open PySem PySem.Spec PyProof.Rows L2 SX
/-! classes whose __init__ may raise, methods that may raise -/
structure MakX (P : Program) (w : World) (K : PySem.W.Frag) (mg : Str → Option Value) (base : Heap) (k : Nat) (x : Str) (C : Addr) (sp : Sp) : Prop where
  ex : ∃ (f : Addr) (fd : FuncData) (ps : List Str), Mk K C f ∧ FnOk P w K mg base (L2.CX P w) k f fd ps sp ∧ mg x = some (.ref C) ∧ Binds K fd ps []
structure MetX (P : Program) (w : World) (K : PySem.W.Frag) (mg : Str → Option Value) (base : Heap) (k : Nat) (C : Addr) (m : Str) (sp : Sp) : Prop where
  ex : ∃ (f : Addr) (fd : FuncData) (ps : List Str), Cls K C ∧ Meth K C m f ∧ FnOk P w K mg base (L2.CX P w) k f fd ps sp ∧ Binds K fd ps []
section
variable {P : Program} {w : World} {K : PySem.W.Frag} {mg : Str → Option Value} {base : Heap}
theorem makX0 {x qual : Str} {C : Addr} {st : Stmt} {f : Addr} {fd : FuncData} {N ps : List Str} {k : Nat} {sp : Sp} (M : Mk K C f) (hm : mg x = some (.ref C)) (F : C8.Fun K "__init__" qual st f fd) (b : Binds K fd ps []) (S : FnScope N ps (C8.fnScope st)) (len : ∀ vs H Q E, sp vs H Q E → vs.length = ps.length)
    (hbody : ∀ (cdv : Value) (A : Around) (outer : List Env) (s : Shared) (H : Hp) (vs : List V) (Q : VK) (E : XK), Room k (A.deeper (envOfC qual (C8.fnScope st) s.heap.objs.size f cdv)) → sp vs H Q E →
      ∃ t, PSs (cxOf (L2.CX P w) P w K mg base N qual (C8.fnScope st) f cdv A outer s H E) (C8.fnBody st) t ∧ t { nx := fun _ H' => Q .non H', rt := Q } (start N vs) H) : MakX P w K mg base (k + 1) x C sp := by
  refine ⟨f, fd, ps, M, ?_, hm, b⟩
  obtain ⟨oc, od, dV, kV, doc, pm, an, cdv, ct, osl, rfl, lk, hcd⟩ := F.ex
  exact fn_of lk hcd S len fun A outer s H vs Q E hr hsp => hbody cdv A outer s H vs Q E hr hsp
theorem metX0 {m qual : Str} {C : Addr} {st : Stmt} {f : Addr} {fd : FuncData} {N ps : List Str} {k : Nat} {sp : Sp} (c : Cls K C) (me : Meth K C m f) (F : C8.Fun K m qual st f fd) (b : Binds K fd ps []) (S : FnScope N ps (C8.fnScope st)) (len : ∀ vs H Q E, sp vs H Q E → vs.length = ps.length)
    (hbody : ∀ (cdv : Value) (A : Around) (outer : List Env) (s : Shared) (H : Hp) (vs : List V) (Q : VK) (E : XK), Room k (A.deeper (envOfC qual (C8.fnScope st) s.heap.objs.size f cdv)) → sp vs H Q E →
      ∃ t, PSs (cxOf (L2.CX P w) P w K mg base N qual (C8.fnScope st) f cdv A outer s H E) (C8.fnBody st) t ∧ t { nx := fun _ H' => Q .non H', rt := Q } (start N vs) H) : MetX P w K mg base (k + 1) C m sp := by
  refine ⟨f, fd, ps, c, me, ?_, b⟩
  obtain ⟨oc, od, dV, kV, doc, pm, an, cdv, ct, osl, rfl, lk, hcd⟩ := F.ex
  exact fn_of lk hcd S len fun A outer s H vs Q E hr hsp => hbody cdv A outer s H vs Q E hr hsp
end
section
variable {X : Cx} {k j : Nat} {f C : Addr} {x m : Str} {sp : Sp} {p pos apos : Pos} {e o : Expr} {es : List Expr} {t : TA} {ta : TE} {CX : CXT} {fd : FuncData} {ps : List Str}
theorem pe_mkx {E : XK} (c : MakX X.prog X.w X.K X.mg X.base k x C sp) (hr : Room j X.A) (hk : k + 1 ≤ j) (hx : Passes (L2.CX X.prog X.w) X E) (hg : Gl X x) (ha : PA X (e :: es) t)
    (hdb : (x == ("__debug__" : Str)) = false := by decide) (he : starEach (e :: es) X.env = (false, eval e X.env) :: starEach es X.env := by rfl) (hpl : (backTo pos (starEach es X.env)).any (·.1) = false := by rfl) :
    PE X (.Call (.Name x p) (e :: es) [] pos) (tMake C sp [] E t) := by
  obtain ⟨f, fd, ps, M, F, hm, b⟩ := c.ex
  exact pe_make M F (hr.mono hk) hg hm b .nil hx ha hdb he hpl
theorem pe_mtx {pl : Sem Bool} {E : XK} (c : MetX X.prog X.w X.K X.mg X.base k C m sp) (hr : Room j X.A) (hk : k ≤ j) (hx : Passes (L2.CX X.prog X.w) X E) (he : PE X o ta) (ha : PA X (e :: es) t)
    (hst : starEach (e :: es) X.env = (false, eval e X.env) :: starEach es X.env := by rfl) (hpl : (backTo pos (starEach es X.env)).any (·.1) = false := by rfl)
    (ht : eval (.Call (.Attribute o m apos) (e :: es) [] pos) X.env = (do
      let ov ← eval o X.env
      standAt apos.atName
      let (f, first) ← holding [ov] (getMethod ov m pl)
      callWith pos f first (backTo pos (starEach (e :: es) X.env)) (backToKw pos (keywordEach [] X.env))) := by rfl) :
    PE X (.Call (.Attribute o m apos) (e :: es) [] pos) (tMeth C m sp [] E ta t) := by
  obtain ⟨f, fd, ps, hc, hm, F, b⟩ := c.ex
  exact pe_meth (pl := pl) he hc hm F (hr.mono hk) b .nil hx ha hst hpl ht
/-! in a try -/
def tMakeS (C : Addr) (sp : Sp) (E : L2.St → XK) (t : TA) : TE := fun σ H Q => t σ H fun vs H1 => ∀ x dx, H1 x = none → H1 dx = none → dx ≠ x →
  sp (.ref x :: vs) (upd (upd H1 dx (.own x)) x (.ins C dx [])) (fun v H2 => v = .non ∧ Q (.ref x) H2) (E σ)
theorem run_makeS {pins : List (Addr × Obj)} {σ : L2.St} {H : Hp} {s : Shared} {Q : VK} {E : L2.St → XK} {us : List Value} {vs : List V} (M : Mk X.K C f) (F : FnOk X.prog X.w X.K X.mg X.base CX k f fd ps sp) (hr : Room (k + 1) X.A) (hb : Binds X.K fd ps [])
    (hx : PassesAt CX X σ (E σ)) (I : Inv X pins σ H s) (r : Vals vs us)
    (h : ∀ x dx, H x = none → H dx = none → dx ≠ x → sp (.ref x :: vs) (upd (upd H dx (.own x)) x (.ins C dx [])) (fun v H2 => v = .non ∧ Q (.ref x) H2) (E σ)) :
    wpAny (model X.prog X.w) X.A (call (.ref C) us) (EP X pins σ Q) X.xe s := by
  have hq := h (s.heap.objs.size + 1) s.heap.objs.size (I.hok.fresh (Nat.le_succ _)) (I.hok.fresh (Nat.le_refl _)) (Nat.ne_of_lt (Nat.lt_succ_self _))
  have I2 := Inv.made (C := C) I
  have r2 : Vals (V.ref (s.heap.objs.size + 1) :: vs) (Value.ref (s.heap.objs.size + 1) :: us) := .cons rfl r
  have hl : (Value.ref (s.heap.objs.size + 1) :: us ++ []).length = ps.length := by
    have e := r2.length
    rw [F.len _ _ _ _ hq] at e
    rw [List.append_nil]
    exact e.symm
  have b := hb _ (Value.ref (s.heap.objs.size + 1) :: us) I2.kIn hl
  rw [List.append_nil] at b
  refine wpAny_call (make_map (f := f) I.kIn M.makes M.init (beq_iff_eq.mp M.fn) (codeAny_mono (F.run _ X.stack _ _ ⟨Value.ref (s.heap.objs.size + 1) :: us, []⟩ (Value.ref (s.heap.objs.size + 1) :: us) _ _ (E σ) (hr.make C us [])
    (I2.env0.make C us []) b r2 hq) fun r s' hq' => ?_))
  cases r with
  | error e => exact hx pins _ _ e s' I2 hq'
  | ok fl =>
    cases fl with
    | ret u =>
      obtain ⟨v, H', I3, rv, ev, q3⟩ := I2.after hq'
      subst ev
      exact ⟨rv, ⟨V.ref (s.heap.objs.size + 1), H', I3, rfl, q3⟩⟩
    | next => exact False.elim hq'
    | brk => exact False.elim hq'
    | cont => exact False.elim hq'
theorem pe_mks {W : WX} (c : MakX X.prog X.w X.K X.mg X.base k x C sp) (hr : Room j X.A) (hk : k + 1 ≤ j) (tk : Takes X W) (hg : Gl X x) (ha : PA X (e :: es) t)
    (hdb : (x == ("__debug__" : Str)) = false := by decide) (he : starEach (e :: es) X.env = (false, eval e X.env) :: starEach es X.env := by rfl) (hpl : (backTo pos (starEach es X.env)).any (·.1) = false := by rfl) :
    PE X (.Call (.Name x p) (e :: es) [] pos) (tMakeS C sp (WE W) t) := by
  obtain ⟨f, fd, ps, M, F, hm, b⟩ := c.ex
  refine ⟨fun pins s σ H Q I h => ?_⟩
  refine wpAny_Call_Name_kw (ld_glob I hg hm ?_ hdb)
  refine PySem.W.callWith_K (h₀ := X.base) I.ok.mod.kin M.kp (thn (ha.run pos pins s σ H _ I h) fun us s1 ⟨vs, H1, I1, r, q⟩ => ⟨I1.kIn, ?_⟩) he hpl
  exact run_makeS M F (hr.mono hk) b (passAt tk σ) I1 r q
def tMethS (C : Addr) (m : Str) (sp : Sp) (E : L2.St → XK) (ta : TE) (t : TA) : TE := fun σ H Q => ta σ H fun x H1 => ∃ a dx fs, x = .ref a ∧ H1 a = some (.ins C dx fs) ∧ fs.lookup m = none ∧
  t σ H1 fun vs H2 => sp (x :: vs) H2 Q (E σ)
theorem pe_mts {pl : Sem Bool} {W : WX} (c : MetX X.prog X.w X.K X.mg X.base k C m sp) (hr : Room j X.A) (hk : k ≤ j) (tk : Takes X W) (he : PE X o ta) (ha : PA X (e :: es) t)
    (hst : starEach (e :: es) X.env = (false, eval e X.env) :: starEach es X.env := by rfl) (hpl : (backTo pos (starEach es X.env)).any (·.1) = false := by rfl)
    (ht : eval (.Call (.Attribute o m apos) (e :: es) [] pos) X.env = (do
      let ov ← eval o X.env
      standAt apos.atName
      let (f, first) ← holding [ov] (getMethod ov m pl)
      callWith pos f first (backTo pos (starEach (e :: es) X.env)) (backToKw pos (keywordEach [] X.env))) := by rfl) :
    PE X (.Call (.Attribute o m apos) (e :: es) [] pos) (tMethS C m sp (WE W) ta t) := by
  obtain ⟨f, fd, ps, hc, hm, F, b⟩ := c.ex
  refine ⟨fun pins s σ H Q I h => ?_⟩
  refine PySem.W.methodCall_KW (pl := pl) (thn (he.run pins s σ H _ I h) fun u s1 ⟨x, H1, I1, rx, a, dx, fs, ex, ea, l, q⟩ => ?_) ht
  subst ex
  obtain rfl : u = Value.ref a := rx
  refine getmeth_ok I1 ea hc hm l ?_
  refine PySem.W.callWith_K (first := [.ref a]) (h₀ := X.base) I.ok.mod.kin hm.kp (thn (ha.run pos pins s1 σ H1 _ I1 q) fun us s2 ⟨vs, H2, I2, r, q2⟩ => ⟨I2.kIn, ?_⟩) hst hpl
  exact run_fnS (us := .ref a :: us) (vs := .ref a :: vs) F (hr.mono hk) b (passAt tk σ) I2 (.cons rfl r) q2
end
end Dw

namespace Dw
/-! marks that are settled: labels brought down along f -/
def rel (f : Nat → Nat) (g : Nat → Nat) (k : Nat) : Nat → Nat := fun x => if x = f k then min (g k) (g (f k)) else if x = k then min (g k) (g (f k)) else g x
def rnd (f : Nat → Nat) (g : Nat → Nat) : Nat → Nat → Nat
  | 0 => g
  | j + 1 => rel f (rnd f g j) j
def trn (f : Nat → Nat) (n : Nat) (g : Nat → Nat) : Nat → Nat → Nat
  | 0 => g
  | t + 1 => rnd f (trn f n g t) n
def cntv (g : Nat → Nat) (v : Nat) : Nat → Nat
  | 0 => 0
  | m + 1 => cntv g v m + if g m ≤ v then 1 else 0
theorem cntv_le (g : Nat → Nat) (v : Nat) : ∀ m, cntv g v m ≤ m
  | 0 => Nat.le_refl 0
  | m + 1 => by
    have := cntv_le g v m
    unfold cntv
    split <;> omega
theorem cntv_mono {g g' : Nat → Nat} {v : Nat} (h : ∀ x, g' x ≤ g x) : ∀ m, cntv g v m ≤ cntv g' v m
  | 0 => Nat.le_refl 0
  | m + 1 => by
    have h1 := cntv_mono (v := v) h m
    have h2 := h m
    unfold cntv
    split <;> split <;> omega
theorem cntv_strict {g g' : Nat → Nat} {v y : Nat} (h : ∀ x, g' x ≤ g x) (h1 : ¬ g y ≤ v) (h2 : g' y ≤ v) : ∀ m, y < m → cntv g v m + 1 ≤ cntv g' v m
  | 0, hm => absurd hm (Nat.not_lt_zero _)
  | m + 1, hm => by
    by_cases e : y = m
    · subst e
      have := cntv_mono (v := v) h y
      unfold cntv
      rw [if_neg h1, if_pos h2]
      omega
    · have h3 := cntv_strict h h1 h2 m (by omega)
      have h4 := h m
      unfold cntv
      split <;> split <;> omega
theorem rel_le (f g : Nat → Nat) (k x : Nat) : rel f g k x ≤ g x := by
  unfold rel
  split
  · rename_i e; rw [e]; exact Nat.min_le_right _ _
  · split
    · rename_i e; rw [e]; exact Nat.min_le_left _ _
    · exact Nat.le_refl _
theorem rnd_le (f g : Nat → Nat) : ∀ (j x : Nat), rnd f g j x ≤ g x
  | 0, _ => Nat.le_refl _
  | j + 1, x => Nat.le_trans (rel_le _ _ _ _) (rnd_le f g j x)
theorem rnd_anti (f g : Nat → Nat) (x j : Nat) : ∀ d, rnd f g (j + d) x ≤ rnd f g j x
  | 0 => Nat.le_refl _
  | d + 1 => Nat.le_trans (rel_le _ _ _ _) (rnd_anti f g x j d)
theorem rnd_low (f g : Nat → Nat) {n k : Nat} (hk : k < n) : rnd f g n k ≤ min (g k) (g (f k)) ∧ rnd f g n (f k) ≤ min (g k) (g (f k)) := by
  have e : n = (k + 1) + (n - (k + 1)) := by omega
  have h1 := rnd_le f g k k
  have h2 := rnd_le f g k (f k)
  have hm : min (rnd f g k k) (rnd f g k (f k)) ≤ min (g k) (g (f k)) := by omega
  have a : rnd f g (k + 1) k ≤ min (rnd f g k k) (rnd f g k (f k)) := by
    show rel f (rnd f g k) k k ≤ _
    unfold rel
    split
    · exact Nat.le_refl _
    · rw [if_pos rfl]; exact Nat.le_refl _
  have b : rnd f g (k + 1) (f k) ≤ min (rnd f g k k) (rnd f g k (f k)) := by
    show rel f (rnd f g k) k (f k) ≤ _
    unfold rel
    rw [if_pos rfl]
    exact Nat.le_refl _
  have c := rnd_anti f g k (k + 1) (n - (k + 1))
  have d := rnd_anti f g (f k) (k + 1) (n - (k + 1))
  rw [← e] at c d
  omega
def closedV (f : Nat → Nat) (n v : Nat) (g : Nat → Nat) : Prop := ∀ k, k < n → (g k ≤ v ↔ g (f k) ≤ v)
theorem rel_closed {f g : Nat → Nat} {n v k : Nat} (hk : k < n) (h : closedV f n v g) (x : Nat) : rel f g k x ≤ v ↔ g x ≤ v := by
  have h1 := h k hk
  unfold rel
  split
  · rename_i e; rw [e]; omega
  · split
    · rename_i e; rw [e]; omega
    · exact Iff.rfl
theorem rnd_closed {f g : Nat → Nat} {n v : Nat} (h : closedV f n v g) : ∀ j, j ≤ n → ∀ x, rnd f g j x ≤ v ↔ g x ≤ v
  | 0, _, _ => Iff.rfl
  | j + 1, hj, x => by
    have ih := rnd_closed h j (by omega)
    have hc : closedV f n v (rnd f g j) := fun k hk => by rw [ih k, ih (f k)]; exact h k hk
    show rel f (rnd f g j) j x ≤ v ↔ _
    rw [rel_closed (n := n) (by omega) hc x, ih x]
theorem trn_prog {f : Nat → Nat} {n v : Nat} (hn : 0 < n) (hf : ∀ x, x < n → f x < n) : ∀ t, closedV f n v (trn f n id t) ∨ t + 1 ≤ cntv (trn f n id t) v n
  | 0 => by
    right
    show 1 ≤ cntv id v n
    have : ∀ m, 0 < m → 1 ≤ cntv id v m := by
      intro m
      induction m with
      | zero => intro h; cases h
      | succ m ih =>
        intro _
        unfold cntv
        by_cases h0 : m = 0
        · subst h0; rw [if_pos (show id 0 ≤ v from Nat.zero_le _)]; omega
        · have := ih (by omega); omega
    exact this n hn
  | t + 1 => by
    by_cases hc : closedV f n v (trn f n id t)
    · left
      intro k hk
      show rnd f (trn f n id t) n k ≤ v ↔ rnd f (trn f n id t) n (f k) ≤ v
      rw [rnd_closed hc n (Nat.le_refl _) k, rnd_closed hc n (Nat.le_refl _) (f k)]
      exact hc k hk
    · rcases trn_prog (v := v) hn hf t with h | h
      · exact absurd h hc
      · right
        have : ∃ k, k < n ∧ ¬ (trn f n id t k ≤ v ↔ trn f n id t (f k) ≤ v) := Classical.byContradiction fun z => hc fun k hk => Classical.byContradiction fun y => z ⟨k, hk, y⟩
        obtain ⟨k, hk, hx⟩ := this
        have hl := rnd_low f (trn f n id t) hk
        have hle := rnd_le f (trn f n id t) n
        show t + 1 + 1 ≤ cntv (rnd f (trn f n id t) n) v n
        by_cases h1 : trn f n id t k ≤ v
        · have h2 : ¬ trn f n id t (f k) ≤ v := fun z => hx ⟨fun _ => z, fun _ => h1⟩
          have := cntv_strict (g' := rnd f (trn f n id t) n) hle h2 (by omega) n (hf k hk)
          omega
        · have h2 : trn f n id t (f k) ≤ v := Classical.byContradiction fun z => hx ⟨fun y => absurd y h1, fun y => absurd y z⟩
          have := cntv_strict (g' := rnd f (trn f n id t) n) hle h1 (by omega) n hk
          omega
theorem trn_settled {f : Nat → Nat} {n : Nat} (hf : ∀ x, x < n → f x < n) {k : Nat} (hk : k < n) : trn f n id n k = trn f n id n (f k) := by
  have hc : ∀ v, closedV f n v (trn f n id n) := fun v => by
    rcases trn_prog (v := v) (by omega) hf n with h | h
    · exact h
    · have := cntv_le (trn f n id n) v n
      omega
  have h1 := (hc (trn f n id n k) k hk).mp (Nat.le_refl _)
  have h2 := (hc (trn f n id n (f k)) k hk).mpr (Nat.le_refl _)
  omega
theorem trn_le (f : Nat → Nat) (n : Nat) : ∀ (t x : Nat), trn f n id t x ≤ x
  | 0, _ => Nat.le_refl _
  | t + 1, x => Nat.le_trans (rnd_le _ _ _ _) (trn_le f n t x)
theorem map_set (n k v : Nat) (g : Nat → Nat) : ((List.range n).map g).set k v = (List.range n).map fun x => if x = k then v else g x := by
  refine List.ext_getElem (by simp) fun i h1 h2 => ?_
  rw [List.getElem_set]
  simp only [List.getElem_map, List.getElem_range]
  by_cases e : k = i
  · rw [if_pos e, if_pos e.symm]
  · rw [if_neg e, if_neg fun z => e z.symm]
end Dw

namespace Dw
open PySem PySem.Spec PyProof.Rows L2 SX
/-- what is drawn from, later -/
def Cell (H : Hp) (p q : Addr) : Prop := ∃ a v x : Int, H p = some (.lst [.ref q, .int a, .int v, .int x]) ∧ 0 ≤ a ∧ 0 ≤ v
theorem Draw.cell {K : PySem.W.Frag} {H : Hp} {p q : Addr} {ns : List Int} (h : Draw K H p q ns) : Cell H p q := h.2
theorem Draw.re {K : PySem.W.Frag} {H H' : Hp} {p q : Addr} {ns : List Int} (d : Draw K H p q ns) (b : But p H H') (c : Cell H' p q) : Draw K H' p q ns := ⟨fun H2 b2 => d.1 H2 (b.trans b2), c⟩
theorem Cell.upd {H : Hp} {p q t : Addr} {o : HO} (h : Cell H p q) (n : t ≠ p) : Cell (upd H t o) p q := by
  obtain ⟨a, v, x, hp, h0, h1⟩ := h
  exact ⟨a, v, x, by rw [upd_ne n.symm]; exact hp, h0, h1⟩
/-- a new object is changed -/
theorem Draw.upd {K : PySem.W.Frag} {H H' : Hp} {p q t : Addr} {ns : List Int} {o : HO} (d : Draw K H p q ns) (b : But p H H') (d' : Draw K H' p q ns) (ht : H t = none) : Draw K (upd H' t o) p q ns := d.re (b.new ht) (d'.cell.upd (d.ne ht))
theorem Draw.free {K : PySem.W.Frag} {H H' : Hp} {p q t : Addr} {ns : List Int} (d : Draw K H p q ns) (b : But p H H') (d' : Draw K H' p q ns) (ht : H' t = none) : H t = none := b.none (d'.ne ht) ht
theorem rgV_zero (n : Nat) : rgV 0 (n : Int) = ((List.range n).map fun x => x).map nv := by
  unfold rgV
  rw [List.map_map, Int.sub_zero, Int.toNat_natCast]
  refine List.map_congr_left fun i _ => ?_
  show V.int (0 + (i : Int)) = V.int (i : Int)
  rw [Int.zero_add]
/-- a row is changed where it stands -/
theorem RowsAt.upd {H : Hp} {rs : List Addr} {T : List (List Int)} {k : Nat} {a : Addr} {r : List Int} (h : RowsAt H rs T) (nd : rs.Nodup) (e : rs[k]? = Option.some a) : RowsAt (L2.upd H a (.lst (r.map V.int))) rs (T.set k r) := by
  refine ⟨by rw [List.length_set, h.len], fun i b q h1 h2 => ?_⟩
  rw [List.getElem?_set] at h2
  by_cases hk : k = i
  · subst hk
    rw [e] at h1
    cases h1
    rw [if_pos rfl] at h2
    split at h2
    · cases h2
      exact upd_same
    · cases h2
  · rw [if_neg hk] at h2
    have hne : b ≠ a := fun z => by
      subst z
      have l1 := (List.getElem?_eq_some_iff.mp e)
      have l2 := (List.getElem?_eq_some_iff.mp h1)
      obtain ⟨i1, x1⟩ := l1
      obtain ⟨i2, x2⟩ := l2
      rcases Nat.lt_or_gt_of_ne hk with hl | hl
      · exact List.pairwise_iff_getElem.mp nd k i i1 i2 hl (by rw [x1, x2])
      · exact List.pairwise_iff_getElem.mp nd i k i2 i1 hl (by rw [x1, x2])
    rw [upd_ne hne]
    exact h.at_ i b q h1 h2
theorem nodup_snoc {α : Type} {l : List α} {a : α} (h : l.Nodup) (n : a ∉ l) : (l ++ [a]).Nodup := by
  rw [List.nodup_append]
  refine ⟨h, by simp, fun x hx y hy e => ?_⟩
  rw [List.mem_singleton] at hy
  exact n (hy ▸ e ▸ hx)
end Dw

namespace Dw
open PySem PySem.Spec PyProof.Rows L2 SX
/-! a tuple times an int, 1 as well -/
theorem tuple_mul1 (l : Addr) (items : Array Value) (n : Nat) (sl : Array (Option Value)) (dd : Option Addr) (u : Tok) :
    Meets (Builtin.«tuple.__mul__» ⟨[.ref l, .int 1 u], []⟩) (fun _ R s => s.heap.get? l = some { cls := .type "tuple", dict := dd, data := .seq items n, slots := sl } ∧ R (.ok (.ret (Value.ref l))) s) :=
  .of_wp fun prog w A R s h => by
    obtain ⟨hp, g, d, tk, os⟩ := s
    obtain ⟨hl, h⟩ := h
    have f1 := AutoSeq1.idx_int
    have c1 : (items.isEmpty || (1 : Int) == 1) = true := by simp
    have c0 : (decide ((1 : Int) < -(2 ^ 63)) || decide ((1 : Int) ≥ 2 ^ 63)) = false := by decide
    wp_walk using wpAny_loadPart' hl
    repeat (first
      | (refine wpAny_ite_false (decide_eq_false (by rw [c0]; exact Bool.false_ne_true)) ?_; wp_walk using wpAny_loadPart' hl)
      | (refine wpAny_ite_true (decide_eq_true c1) ?_; wp_walk using wpAny_loadPart' hl))
    exact ⟨_, rfl, h⟩
def rRepA (K : PySem.W.Frag) : R2 := fun x y H Q => ∃ l k xs, x = .ref l ∧ y = .int k ∧ SqT K H l xs ∧ xs ≠ [] ∧ 1 ≤ k ∧ k ≤ 1000 ∧ xs.length ≤ 1000 ∧ (k = 1 → Q (.ref l) H) ∧ (2 ≤ k → ∀ p, H p = none → Q (.ref p) (upd H p (.tup (List.replicate k.toNat xs).flatten)))
theorem op_repA0 {X : Cx} : OpR X (binaryOp .Mult) (rRepA X.K) := by
  intro pins s σ H x y v u Q I rx ry h
  obtain ⟨l, k, xs, ex, ey, hT, hne, h1, h2, hz, q1, q2⟩ := h
  by_cases hk : k = 1
  · subst hk
    subst ex
    subst ey
    cases rx
    obtain ⟨t, rfl⟩ := ry
    obtain ⟨its, r, ⟨⟨cls, dd, data, sl⟩, ho, hc, n, hd⟩, hs⟩ := I.tuple hT
    simp only at hc hd
    subst hc hd
    refine wpAny_binaryOp_repeat_ref (T := "tuple") (U := "int") (by decide) ⟨_, ho, rfl⟩ (fun s' => typeIs_int s' 1 t) noFill_tuple_mul F.fills_int_mul F.slot_int_rmul repeat_tuple F.slot_int_index.lookup
      (call_meets F.slot_int_rmul (typeIs_int s 1 t) F.entry_int_rmul (F.args_int_rmul_2 _ _) (int_rmul_tuple 1 t l its.toArray n dd sl)
        ⟨ho, rfl, ⟨_, ho, rfl⟩, call_meets F.slot_tuple_mul ⟨_, ho, rfl⟩ F.entry_tuple_mul (F.args_tuple_mul_2 _ _) (tuple_mul1 l its.toArray n sl dd t) ⟨ho, ?_⟩⟩)
    exact ⟨.ref l, H, I, rfl, q1 rfl⟩
  · exact op_repT pins s σ H x y v u Q I rx ry ⟨l, k, xs, ex, ey, hT, hne, by omega, h2, hz, q2 (by omega)⟩
theorem op_repA {X : Cx} (K : PySem.W.Frag) (h : X.K = K := by rfl) : OpR X (binaryOp .Mult) (rRepA K) := h ▸ op_repA0
/-! what is due of a machine's parts -/
def setM (T : List (List Int)) (acc : List Bool) : Bool := (List.range T.length).all fun i => decide (acc[i]? = acc[nxt T i 0]?)
def dueM (w : Int) (T : List (List Int)) (acc : List Bool) : Option (Bool × String) :=
  if ¬ (0 ≤ w ∧ w ≤ 6) then some (true, "width")
  else if 400 < T.length then some (false, "states")
  else if T = [] ∨ acc.length ≠ T.length ∨ goodT T (2 ^ w.toNat) = false then some (true, "table")
  else if setM T acc = false then some (true, "settled")
  else none
section
variable {w : Int} {T : List (List Int)} {acc : List Bool}
theorem dm1 (h : ¬ (0 ≤ w ∧ w ≤ 6)) : dueM w T acc = some (true, "width") := by
  unfold dueM
  rw [if_pos h]
theorem dm2 (h : 0 ≤ w ∧ w ≤ 6) (h2 : 400 < T.length) : dueM w T acc = some (false, "states") := by
  unfold dueM
  rw [if_neg (fun z => z h), if_pos h2]
theorem dm3 (h : 0 ≤ w ∧ w ≤ 6) (h2 : ¬ 400 < T.length) (h3 : T = [] ∨ acc.length ≠ T.length ∨ goodT T (2 ^ w.toNat) = false) : dueM w T acc = some (true, "table") := by
  unfold dueM
  rw [if_neg (fun z => z h), if_neg h2, if_pos h3]
theorem dm4 (h : 0 ≤ w ∧ w ≤ 6) (h2 : ¬ 400 < T.length) (h3 : ¬ (T = [] ∨ acc.length ≠ T.length ∨ goodT T (2 ^ w.toNat) = false)) (h4 : setM T acc = false) : dueM w T acc = some (true, "settled") := by
  unfold dueM
  rw [if_neg (fun z => z h), if_neg h2, if_neg h3, if_pos h4]
theorem dm5 (h : 0 ≤ w ∧ w ≤ 6) (h2 : ¬ 400 < T.length) (h3 : ¬ (T = [] ∨ acc.length ≠ T.length ∨ goodT T (2 ^ w.toNat) = false)) (h4 : setM T acc = true) : dueM w T acc = none := by
  unfold dueM
  rw [if_neg (fun z => z h), if_neg h2, if_neg h3, if_neg (by rw [h4]; decide)]
theorem setM_no {i : Nat} (hi : i < T.length) (h : acc[i]? ≠ acc[nxt T i 0]?) : setM T acc = false := by
  unfold setM
  rw [List.all_eq_false]
  exact ⟨i, List.mem_range.mpr hi, by simpa using h⟩
theorem setM_yes (h : ∀ i, i < T.length → acc[i]? = acc[nxt T i 0]?) : setM T acc = true := by
  unfold setM
  rw [List.all_eq_true]
  exact fun i hi => decide_eq_true (h i (List.mem_range.mp hi))
theorem setM_at (h : setM T acc = true) : ∀ i, i < T.length → acc[i]? = acc[nxt T i 0]? := fun i hi => by
  have := List.all_eq_true.mp h i (List.mem_range.mpr hi)
  exact of_decide_eq_true this
theorem MOk.due {n : Nat} (h : MOk n T acc) : dueM (n : Int) T acc = none := by
  have h6 := h.w6
  have h4 := h.le
  refine dm5 ⟨by omega, by omega⟩ (by omega) ?_ (setM_yes h.set)
  rw [Int.toNat_natCast]
  rintro (z | z | z)
  · have := h.pos
    rw [z] at this
    cases this
  · exact z h.al
  · rw [h.good] at z
    cases z
theorem MOk.of_due (h : dueM w T acc = none) : MOk w.toNat T acc ∧ 0 ≤ w ∧ w ≤ 6 := by
  unfold dueM at h
  split at h
  · cases h
  · rename_i h1
    split at h
    · cases h
    · rename_i h2
      split at h
      · cases h
      · rename_i h3
        split at h
        · cases h
        · rename_i h4
          have h1' : 0 ≤ w ∧ w ≤ 6 := Classical.not_not.mp h1
          simp only [not_or, ne_eq, Decidable.not_not] at h3
          refine ⟨⟨by omega, List.length_pos_iff.mpr h3.1, by omega, by simpa using h3.2.2, h3.2.1, setM_at (by simpa using h4)⟩, h1'⟩
end
/-- what a making ends in -/
def MRes (C CM CO m : Addr) (w : Int) (T : List (List Int)) (acc : List Bool) (H : Hp) (Q : VK) (E : XK) : Option (Bool × String) → Prop
  | none => ∀ H', But m H H' → MachNew C H H' m w.toNat T acc → Q .non H'
  | some (true, s) => Rz CM "why" (.str (Str.ofString s)) H E
  | some (false, s) => Rz CO "limit" (.str (Str.ofString s)) H E
/-! shapes -/
structure TupsAt (H : Hp) (ts : List Addr) (T : List (List Int)) : Prop where
  len : ts.length = T.length
  at_ : ∀ (i : Nat) (a : Addr) (r : List Int), ts[i]? = some a → T[i]? = some r → H a = some (.tup (r.map V.int))
theorem TupsAt.same {H H' : Hp} {ts : List Addr} {T : List (List Int)} (h : TupsAt H ts T) (s : Same H H') : TupsAt H' ts T := ⟨h.len, fun i a r h1 h2 => s _ _ (h.at_ i a r h1 h2)⟩
theorem TupsAt.snoc {H : Hp} {ts : List Addr} {T : List (List Int)} {a : Addr} {r : List Int} (h : TupsAt H ts T) (e : H a = some (.tup (r.map V.int))) : TupsAt H (ts ++ [a]) (T ++ [r]) := by
  refine ⟨by rw [List.length_append, List.length_append, h.len]; rfl, fun i b q h1 h2 => ?_⟩
  by_cases hi : i < ts.length
  · rw [List.getElem?_append_left hi] at h1
    rw [List.getElem?_append_left (by rw [← h.len]; exact hi)] at h2
    exact h.at_ i b q h1 h2
  · rw [List.getElem?_append_right (by omega)] at h1
    rw [List.getElem?_append_right (by rw [← h.len]; omega), ← h.len] at h2
    cases hk : i - ts.length with
    | zero =>
      rw [hk] at h1 h2
      cases h1
      cases h2
      exact e
    | succ k =>
      rw [hk] at h1
      cases h1
def ShapeAt (H : Hp) (s : Addr) (w : Nat) (T : List (List Int)) (acc : List Bool) : Prop := ∃ tt ta ts, H s = some (.tup [nv w, .ref tt, .ref ta]) ∧ H tt = some (.tup (ts.map V.ref)) ∧ TupsAt H ts T ∧ H ta = some (.tup (acc.map V.bl))
theorem ShapeAt.same {H H' : Hp} {s : Addr} {w : Nat} {T : List (List Int)} {acc : List Bool} (h : ShapeAt H s w T acc) (e : Same H H') : ShapeAt H' s w T acc := by
  obtain ⟨tt, ta, ts, h1, h2, h3, h4⟩ := h
  exact ⟨tt, ta, ts, e _ _ h1, e _ _ h2, h3.same e, e _ _ h4⟩
def trowD (r : List Int) : PyData := .tuple (r.map intD)
def shapeD (w : Nat) (T : List (List Int)) (acc : List Bool) : PyData := .tuple [.int (w : Int), .tuple (T.map trowD), .tuple (acc.map boolD)]
theorem tups_dp {K : PySem.W.Frag} {H : Hp} : ∀ {ts : List Addr} {T : List (List Int)}, TupsAt H ts T → DpAll K H (ts.map V.ref) (T.map trowD)
  | [], [], _ => .nil
  | a :: rs, r :: T, h => .cons (.tup (SqT.of (h.at_ 0 a r rfl rfl)) (ints_dp r)) (tups_dp (ts := rs) (T := T) ⟨Nat.succ.inj h.len, fun i a' r' h1 h2 => h.at_ (i + 1) a' r' h1 h2⟩)
  | [], _ :: _, h => nomatch h.len
  | _ :: _, [], h => nomatch h.len
theorem ShapeAt.dp {K : PySem.W.Frag} {H : Hp} {s : Addr} {w : Nat} {T : List (List Int)} {acc : List Bool} (h : ShapeAt H s w T acc) : Dp K H (.ref s) (shapeD w T acc) := by
  obtain ⟨tt, ta, ts, h1, h2, h3, h4⟩ := h
  exact .tup (SqT.of h1) (.cons (.int _) (.cons (.tup (SqT.of h2) (tups_dp h3)) (.cons (.tup (SqT.of h4) (bools_dp acc)) .nil)))
theorem trows_lay : ∀ T : List (List Int), PyData.canLayAll0 (T.map trowD) = true
  | [] => by simp [PyData.canLayAll0]
  | n :: r => by simp [PyData.canLayAll0, trowD, PyData.canLay0, ints_lay n, trows_lay r]
theorem trows_depth : ∀ T : List (List Int), PyData.depthAll (T.map trowD) ≤ 1
  | [] => by simp [PyData.depthAll]
  | n :: r => by
    have := trows_depth r
    simp [PyData.depthAll, trowD, PyData.depth, ints_depth n]
    omega
theorem shape_shaped (w : Nat) (T : List (List Int)) (acc : List Bool) : SeqAt.shaped (shapeD w T acc) = true := by
  have := trows_depth T
  simp [shapeD, SeqAt.shaped, PyData.canLay0, PyData.canLayAll0, PyData.depth, PyData.depthAll, trows_lay, bools_lay, bools_depth]
  omega
/-! a property -/
structure Prp (P : Program) (w : World) (K : PySem.W.Frag) (mg : Str → Option Value) (base : Heap) (k : Nat) (C : Addr) (m : Str) (sp : Sp) : Prop where
  ex : ∃ (p g : Addr) (fd : FuncData) (ps : List Str), Cls K C ∧ PropOf K C m p g ∧ FnOk P w K mg base C8.CX0 k g fd ps sp ∧ Binds K fd ps []
theorem prp0 {P : Program} {w : World} {K : PySem.W.Frag} {mg : Str → Option Value} {base : Heap} {m qual : Str} {C p : Addr} {st : Stmt} {f : Addr} {fd : FuncData} {N ps : List Str} {k : Nat} {sp : Sp} (c : Cls K C) (me : PropOf K C m p f) (F : C8.Fun K m qual st f fd) (b : Binds K fd ps []) (S : FnScope N ps (C8.fnScope st)) (len : ∀ vs H Q E, sp vs H Q E → vs.length = ps.length)
    (hbody : ∀ (cdv : Value) (A : Around) (outer : List Env) (s : Shared) (H : Hp) (vs : List V) (Q : VK) (E : XK), Room k (A.deeper (envOfC qual (C8.fnScope st) s.heap.objs.size f cdv)) → sp vs H Q E →
      ∃ t, PSs (cxOf C8.CX0 P w K mg base N qual (C8.fnScope st) f cdv A outer s H E).nox (C8.fnBody st) t ∧ t { nx := fun _ H' => Q .non H', rt := Q } (start N vs) H) : Prp P w K mg base (k + 1) C m sp :=
  ⟨p, f, fd, ps, c, me, C8.fn0 F S len hbody, b⟩
theorem pe_pr {X : Cx} {k j : Nat} {C : Addr} {m : Str} {sp : Sp} {e : Expr} {ta : TE} {pos : Pos} (c : Prp X.prog X.w X.K X.mg X.base k C m sp) (hr : Room j X.A) (hk : k + 1 ≤ j) (he : PE X e ta) (hab : attributeBase e m X.env (eval e X.env) = eval e X.env) : PE X (.Attribute e m pos) (tProp C sp [] C8.E0 ta) := by
  obtain ⟨p, g, fd, ps, hc, hp, F, b⟩ := c.ex
  exact pe_prop he hc hp F (hr.mono hk) b .nil C8.pass0 hab
/-! numbers that are halved, digits of a word -/
theorem halves_sum : ∀ (ns : List Nat) (k : Nat), (ns.map fun n => ((n / 2 ^ k : Nat) : Int)).sum = 0 ↔ bls ns ≤ k
  | [], k => by simp [bls]
  | n :: r, k => by
    have ih := halves_sum r k
    rw [List.map_cons, List.sum_cons]
    have nn : 0 ≤ (r.map fun n => ((n / 2 ^ k : Nat) : Int)).sum := by
      clear ih
      induction r with
      | nil => simp
      | cons m r ih =>
        rw [List.map_cons, List.sum_cons]
        have := Int.natCast_nonneg (m / 2 ^ k)
        exact Int.add_nonneg this ih
    show _ ↔ max (blen n) (bls r) ≤ k
    rw [Nat.max_le, ← ih]
    have hb : n / 2 ^ k = 0 ↔ blen n ≤ k := by
      constructor
      · intro h
        have h1 := Nat.div_eq_zero_iff.mp h
        rcases h1 with h1 | h1
        · have := Nat.two_pow_pos k
          omega
        · exact blen_le h1
      · intro h
        exact Nat.div_eq_of_lt (Nat.lt_of_lt_of_le (lt_blen n) (Nat.pow_le_pow_right (by decide) h))
    rw [← hb]
    obtain ⟨d, hd⟩ : ∃ d, d = n / 2 ^ k := ⟨_, rfl⟩
    rw [← hd]
    omega
def hvN (ns : List Nat) (k : Nat) : List Nat := ns.map fun n => n / 2 ^ k
theorem bitAt_hv (ns : List Nat) (k : Nat) : bitAt ns k = (hvN ns k).map (· % 2) := by
  unfold bitAt hvN
  rw [List.map_map]
  rfl
theorem hv_succ (ns : List Nat) (k : Nat) : (hvN ns k).map (· / 2) = hvN ns (k + 1) := by
  unfold hvN
  rw [List.map_map]
  refine List.map_congr_left fun n _ => ?_
  show n / 2 ^ k / 2 = n / 2 ^ (k + 1)
  rw [Nat.pow_succ, Nat.div_div_eq_div_mul]
theorem hvN_len (ns : List Nat) (k : Nat) : (hvN ns k).length = ns.length := by simp [hvN]
theorem wd_take (ns : List Nat) : wd ns = (List.range (bls ns)).map fun k => lo (bitAt ns k) := rfl
/-! zeros behind a word -/
theorem MOk.run {w : Nat} {T : List (List Int)} {acc : List Bool} (h : MOk w T acc) {ls : List Nat} (hl : ∀ l ∈ ls, l < 2 ^ w) : runT T 0 ls < T.length := runT_lt h.good ls 0 hl h.pos
theorem MOk.zeros {w : Nat} {T : List (List Int)} {acc : List Bool} (h : MOk w T acc) : ∀ (z s : Nat), s < T.length → acc[runT T s (List.replicate z 0)]? = acc[s]?
  | 0, _, _ => rfl
  | z + 1, s, hs => by
    obtain ⟨_, _, _, h2⟩ := goodT_at h.good hs (a := 0) (Nat.two_pow_pos w)
    show acc[runT T (nxt T s 0) (List.replicate z 0)]? = _
    rw [h.zeros z _ h2, ← h.set s hs]
theorem runT_appM (T : List (List Int)) (s : Nat) (a b : List Nat) : runT T s (a ++ b) = runT T (runT T s a) b := by
  unfold runT
  rw [List.foldl_append]
/-- the machine that takes all or none -/
theorem aon_ok {w : Nat} (hw : w ≤ 6) (v : Bool) : MOk w [List.replicate (2 ^ w) 0] [v] := by
  have hg : goodT [List.replicate (2 ^ w) (0 : Int)] (2 ^ w) = true := by
    unfold goodT goodRow
    simp
  refine ⟨hw, Nat.zero_lt_one, by simp, hg, rfl, fun i hi => ?_⟩
  have : i = 0 := by simpa using hi
  subst this
  obtain ⟨_, _, _, h⟩ := goodT_at hg (s := 0) (a := 0) Nat.zero_lt_one (Nat.two_pow_pos w)
  have : nxt [List.replicate (2 ^ w) (0 : Int)] 0 0 = 0 := by
    have h' : nxt [List.replicate (2 ^ w) (0 : Int)] 0 0 < 1 := h
    omega
  rw [this]
section
variable {X : Cx} (K : PySem.W.Frag)
theorem maxK (hc : X.calm = true := by rfl) (h : X.K = K := by rfl) : CallR X (.builtin "max") (rMax K) := h ▸ cr_max hc
end
theorem RowsAt.app {H : Hp} {a b : List Addr} {A B : List (List Int)} (h : RowsAt H a A) (g : RowsAt H b B) : RowsAt H (a ++ b) (A ++ B) := by
  refine ⟨by rw [List.length_append, List.length_append, h.len, g.len], fun i x r h1 h2 => ?_⟩
  by_cases hi : i < a.length
  · rw [List.getElem?_append_left hi] at h1
    rw [List.getElem?_append_left (by rw [← h.len]; exact hi)] at h2
    exact h.at_ i x r h1 h2
  · rw [List.getElem?_append_right (by omega)] at h1
    rw [List.getElem?_append_right (by rw [← h.len]; omega), ← h.len] at h2
    exact g.at_ _ x r h1 h2
theorem RowsAt.tk {H : Hp} {a : List Addr} {A : List (List Int)} (h : RowsAt H a A) (k : Nat) : RowsAt H (a.take k) (A.take k) := by
  refine ⟨by rw [List.length_take, List.length_take, h.len], fun i x r h1 h2 => ?_⟩
  rw [List.getElem?_take] at h1 h2
  split at h1
  · rename_i hi
    rw [if_pos hi] at h2
    exact h.at_ i x r h1 h2
  · cases h1
theorem RowsAt.dp {H : Hp} {a : List Addr} {A : List (List Int)} (h : RowsAt H a A) (k : Nat) : RowsAt H (a.drop k) (A.drop k) := by
  refine ⟨by rw [List.length_drop, List.length_drop, h.len], fun i x r h1 h2 => ?_⟩
  rw [List.getElem?_drop] at h1 h2
  exact h.at_ _ x r h1 h2
theorem RowsAt.one {H : Hp} {a : Addr} {r : List Int} (h : H a = Option.some (.lst (r.map V.int))) : RowsAt H [a] [r] := ⟨rfl, fun i x r' h1 h2 => match i, h1, h2 with
  | 0, h1, h2 => by cases h1; cases h2; exact h⟩
theorem RowsAt.rep {H : Hp} {a : Addr} {r : List Int} (h : H a = Option.some (.lst (r.map V.int))) (n : Nat) : RowsAt H (List.replicate n a) (List.replicate n r) := by
  refine ⟨by rw [List.length_replicate, List.length_replicate], fun i x r' h1 h2 => ?_⟩
  rw [List.getElem?_replicate] at h1 h2
  split at h1
  · rename_i hi
    rw [if_pos hi] at h2
    cases h1
    cases h2
    exact h
  · cases h1
/-- the row of a table, as a test of what is due -/
theorem goodT_no {T : List (List Int)} {l : Nat} {r : List Int} (h : r ∈ T) (hn : goodRow T.length l r = false) : goodT T l = false := by
  unfold goodT
  rw [List.all_eq_false]
  exact ⟨r, h, by rw [hn]; decide⟩
theorem goodRow_mm {n l : Nat} {r : List Int} (hl : r.length = l) (mn mx : Int) (h1 : mn ∈ r) (h2 : ∀ y ∈ r, mn ≤ y) (h3 : mx ∈ r) (h4 : ∀ y ∈ r, y ≤ mx) : goodRow n l r = (decide (0 ≤ mn) && decide (mx < (n : Int))) := by
  unfold goodRow
  rw [decide_eq_true hl, Bool.true_and, Bool.eq_iff_iff, List.all_eq_true, Bool.and_eq_true, decide_eq_true_eq, decide_eq_true_eq]
  constructor
  · intro h
    have a := h mn h1
    have b := h mx h3
    rw [Bool.and_eq_true, decide_eq_true_eq, decide_eq_true_eq] at a b
    exact ⟨a.1, b.2⟩
  · intro h x hx
    have a := h2 x hx
    have b := h4 x hx
    rw [Bool.and_eq_true, decide_eq_true_eq, decide_eq_true_eq]
    omega
/-- rows as tuples -/
theorem lc_tups {K : PySem.W.Frag} {t : Addr} {rs : List Addr} {T : List (List Int)} {g : TG} {te : TE} {vs : List Nat} {σ : L2.St} {H1 : Hp} {D : Addr} {Qd : Hp → Prop} (h1 : H1 t = some (.lst (rs.map V.ref))) (hr : RowsAt H1 rs T) (hn : T.length ≤ 500) (hD : H1 D = none)
    (step : ∀ a (r : List Int) H (N : VK), H a = some (.lst (r.map V.int)) → (∀ L, H L = none → N (.ref L) (upd H L (.tup (r.map V.int)))) → g (.ref a) (wipe σ vs) H fun σ2 H2 => wipe σ2 vs = wipe σ vs ∧ te σ2 H2 N)
    (hd : ∀ H' qs, Same H1 H' → H' D = some (.lst (qs.map V.ref)) → TupsAt H' qs T → Qd H') : LcJ (Itl K t) g tYes te vs D σ H1 Qd := by
  refine lc_listN (xs := rs.map V.ref) (fun i H4 => ∃ qs : List Addr, H4 D = some (.lst (qs.map V.ref)) ∧ TupsAt H4 qs (T.take i) ∧ Same H1 H4) ?_ ?_ ?_ ?_
  · exact ⟨[], upd_same, ⟨rfl, fun i a r h _ => nomatch h⟩, same_upd hD⟩
  · rintro i H4 _ ⟨qs, _, _, s4⟩
    exact SqL.of (s4 _ _ h1)
  · rintro i x H4 N2 hx ⟨qs, e4, q4, s4⟩ hN2
    rw [List.getElem?_map] at hx
    obtain ⟨ra, hra, rfl⟩ := Option.map_eq_some_iff.mp hx
    have hi : i < T.length := by rw [← hr.len]; exact (List.getElem?_eq_some_iff.mp hra).1
    have hTi : T[i]? = some T[i] := List.getElem?_eq_getElem hi
    have hrow := s4 _ _ (hr.at_ i ra T[i] hra hTi)
    have hql : qs.length ≤ 500 := by
      have := q4.len
      rw [List.length_take] at this
      omega
    refine step ra T[i] H4 (fun y H5 => ∃ acc, H5 D = some (.lst acc) ∧ acc.length < sizeLine ∧ N2 (upd H5 D (.lst (acc ++ [y])))) hrow fun L hL => ⟨_, (same_upd hL) _ _ e4, smallt (by rw [List.length_map]; omega), hN2 _ ⟨qs ++ [L], ?_, ?_, Dw.Same.new (s4.trans (same_upd hL)) hD⟩⟩
    · rw [upd_same, List.map_append]
      rfl
    · rw [List.take_add_one, hTi]
      have q5 := TupsAt.snoc (q4.same (same_upd hL)) (r := T[i]) upd_same
      refine ⟨q5.len, fun j a' r' e1 e2 => ?_⟩
      have h5 := q5.at_ j a' r' e1 e2
      rw [upd_ne]
      · exact h5
      · intro z
        subst z
        rw [(same_upd hL) _ _ e4] at h5
        cases h5
  · rintro H4 ⟨qs, e4, q4, s4⟩
    rw [List.length_map, hr.len, List.take_length] at q4
    exact hd H4 qs s4 e4 q4
/-- a machine and the parts that it was made of -/
structure Bg (K : PySem.W.Frag) (C p q : Addr) (ns : List Int) (t a : Addr) (rs : List Addr) (w : Nat) (T : List (List Int)) (acc : List Bool) (L : List Addr) (m : Addr) (H : Hp) : Prop where
  draw : Draw K H p q ns
  ht : H t = some (.lst (rs.map V.ref))
  rows : RowsAt H rs T
  ha : H a = some (.lst (acc.map V.bl))
  mach : MachP C H L m w T acc
  nt : t ≠ p
  na : a ≠ p
  nr : ∀ y ∈ rs, y ≠ p
  nL : p ∉ L
section
variable {K : PySem.W.Frag} {C p q : Addr} {ns : List Int} {t a : Addr} {rs : List Addr} {w : Nat} {T : List (List Int)} {acc : List Bool} {L : List Addr} {m : Addr} {H H' : Hp}
theorem Bg.same (h : Bg K C p q ns t a rs w T acc L m H) (s : Same H H') : Bg K C p q ns t a rs w T acc L m H' := ⟨h.draw.same s, s _ _ h.ht, h.rows.same s, s _ _ h.ha, h.mach.same s, h.nt, h.na, h.nr, h.nL⟩
theorem Bg.but (h : Bg K C p q ns t a rs w T acc L m H) (b : But p H H') (d : Draw K H' p q ns) : Bg K C p q ns t a rs w T acc L m H' := ⟨d, b _ _ h.nt h.ht, h.rows.but b h.nr, b _ _ h.na h.ha, h.mach.but b h.nL, h.nt, h.na, h.nr, h.nL⟩
end
end Dw

namespace Dw
open PySem PySem.Spec PyProof.Rows L2 SX
/-! a comprehension with a test, a for with an open next state: over any walk -/
theorem lc_sel {J : It} {n : Nat} {G : Hp → Prop} {Y : Nat → Hp → V → Hp → Prop} (w : Walk J n G Y) {g : TG} {tt : TT} {te : TE} {vs : List Nat} {σ : L2.St} {H1 : Hp} {D : Addr} {Qd : Hp → Prop} (keep : Nat → Bool) (out : Nat → V) (hn : n ≤ 10000) (hD : H1 D = none)
    (hG : ∀ H, Same H1 H → G H)
    (hs : ∀ i x H H' (Yv : VK) (Nn : Hp → Prop), i < n → Same H1 H → Y i H x H' → (keep i = true → ∀ H2, Same H H2 → Yv (out i) H2) → (keep i = false → ∀ H2, Same H H2 → Nn H2) → g x (wipe σ vs) H' fun σ2 H2 => wipe σ2 vs = wipe σ vs ∧ tt σ2 H2 fun b H3 => if b = true then te σ2 H3 Yv else Nn H3)
    (hd : ∀ H, Same H1 H → H D = some (.lst (((List.range n).filter keep).map out)) → Qd H) : LcJ J g tt te vs D σ H1 Qd := by
  refine lc_it w (fun i H => Same H1 H ∧ H D = some (.lst (((List.range i).filter keep).map out))) ⟨same_upd hD, upd_same⟩ (fun i H _ p => hG H p.1) (fun i x H H' hi p y => ?_) fun H p => hd H p.1 p.2
  obtain ⟨s1, hDl⟩ := p
  have hle : ((List.range i).filter keep).length ≤ i := Nat.le_trans (List.length_filter_le _ _) (by rw [List.length_range]; exact Nat.le_refl _)
  refine hs i x H H' (fun y H4 => ∃ acc, H4 D = some (.lst acc) ∧ acc.length < sizeLine ∧ (Same H1 (upd H4 D (.lst (acc ++ [y]))) ∧ (upd H4 D (.lst (acc ++ [y]))) D = some (.lst (((List.range (i + 1)).filter keep).map out)))) (fun H3 => Same H1 H3 ∧ H3 D = some (.lst (((List.range (i + 1)).filter keep).map out))) hi s1 y (fun hk H2 s2 => ⟨_, s2 _ _ hDl, by rw [List.length_map]; exact smallt (by omega), Dw.Same.new (s1.trans s2) hD, ?_⟩) (fun hk H2 s2 => ⟨s1.trans s2, ?_⟩)
  · rw [upd_same, List.range_succ, List.filter_append, List.filter_cons_of_pos hk, List.map_append]
    rfl
  · rw [s2 _ _ hDl, List.range_succ, List.filter_append, List.filter_cons_of_neg (by rw [hk]; decide), List.map_append]
    simp
theorem for_itN {J : It} {n : Nat} {G : Hp → Prop} {Y : Nat → Hp → V → Hp → Prop} (w : Walk J n G Y) {g : TG} {tb : TS} {D : Ends} {σ : L2.St} {H : Hp} (Pv : Nat → L2.St → Hp → Prop) (h0 : Pv 0 σ H) (hG : ∀ i σ H, i ≤ n → Pv i σ H → G H)
    (hs : ∀ i x σ H H' (N : L2.St → Hp → Prop), i < n → Pv i σ H → Y i H x H' → (∀ σ' H', Pv (i + 1) σ' H' → N σ' H') → g x σ H' fun σ2 H2 => tb { D with nx := N, ct := N, bk := D.nx } σ2 H2) (hd : ∀ σ H, Pv n σ H → D.nx σ H) : ForJ J g tb D σ H :=
  for_it w Pv h0 hG (fun i x σ H H' hi hp y => hs i x σ H H' (Pv (i + 1)) hi hp y (fun _ _ h => h)) hd
theorem sel_ints (n : Nat) (keep : Nat → Bool) : ((List.range n).filter keep).map nv = (((List.range n).filter keep).map fun x => ((x : Nat) : Int)).map V.int := by rw [List.map_map]; rfl
theorem mem_sel {n : Nat} {keep : Nat → Bool} {x : Int} : x ∈ ((List.range n).filter keep).map (fun x => ((x : Nat) : Int)) ↔ ∃ j : Nat, j < n ∧ keep j = true ∧ x = (j : Int) := by
  rw [List.mem_map]
  constructor
  · rintro ⟨j, h, rfl⟩
    obtain ⟨h1, h2⟩ := List.mem_filter.mp h
    exact ⟨j, List.mem_range.mp h1, h2, rfl⟩
  · rintro ⟨j, h1, h2, rfl⟩
    exact ⟨j, List.mem_filter.mpr ⟨List.mem_range.mpr h1, h2⟩, rfl⟩
end Dw

namespace Dw
/-! ranks: how many free letters lead to an accepting state -/
section
variable (acc : Nat → Bool) (f g : Nat → Nat)
def canK : Nat → Nat → Bool
  | 0, s => acc s
  | k + 1, s => canK k (f s) || canK k (g s)
def IsRank (s : Nat) : Option Nat → Prop
  | some k => canK acc f g k s = true ∧ ∀ j, j < k → canK acc f g j s = false
  | none => ∀ k, canK acc f g k s = false
def rkUp (r s : Nat) : Option Nat := (List.range (r + 1)).find? fun k => canK acc f g k s
end
section
variable {acc : Nat → Bool} {f g : Nat → Nat}
theorem IsRank.uniq {s : Nat} {a b : Option Nat} (h1 : IsRank acc f g s a) (h2 : IsRank acc f g s b) : a = b := by
  match a, b, h1, h2 with
  | none, none, _, _ => rfl
  | none, some k, h1, h2 => have := h2.1; rw [h1 k] at this; cases this
  | some k, none, h1, h2 => have := h1.1; rw [h2 k] at this; cases this
  | some k, some l, h1, h2 =>
    rcases Nat.lt_trichotomy k l with h | h | h
    · have := h1.1; rw [h2.2 k h] at this; cases this
    · rw [h]
    · have := h2.1; rw [h1.2 l h] at this; cases this
theorem rkUp_none {r s : Nat} : rkUp acc f g r s = none ↔ ∀ j, j ≤ r → canK acc f g j s = false := by
  unfold rkUp
  rw [List.find?_eq_none]
  constructor
  · intro h j hj
    have := h j (List.mem_range.mpr (by omega))
    simpa using this
  · intro h j hj
    rw [h j (by have := List.mem_range.mp hj; omega)]
    decide
theorem rkUp_some {r s d : Nat} : rkUp acc f g r s = some d ↔ d ≤ r ∧ canK acc f g d s = true ∧ ∀ j, j < d → canK acc f g j s = false := by
  unfold rkUp
  rw [List.find?_range_eq_some]
  constructor
  · rintro ⟨h1, h2, h3⟩
    refine ⟨by have := List.mem_range.mp h2; omega, h1, fun j hj => ?_⟩
    have := h3 j hj
    simpa using this
  · rintro ⟨h1, h2, h3⟩
    exact ⟨h2, List.mem_range.mpr (by omega), fun j hj => by rw [h3 j hj]; rfl⟩
theorem rkUp_zero (s : Nat) : rkUp acc f g 0 s = if acc s = true then some 0 else none := by
  split
  · rename_i h
    exact rkUp_some.mpr ⟨Nat.le_refl _, h, fun j hj => absurd hj (Nat.not_lt_zero _)⟩
  · rename_i h
    refine rkUp_none.mpr fun j hj => ?_
    have : j = 0 := by omega
    subst this
    show acc s = false
    simpa using h
/-- rank r is not given to a state later -/
theorem rkUp_same {r s : Nat} : rkUp acc f g (r + 1) s = some r ↔ rkUp acc f g r s = some r := by
  rw [rkUp_some, rkUp_some]
  constructor
  · rintro ⟨_, h⟩; exact ⟨Nat.le_refl _, h⟩
  · rintro ⟨_, h⟩; exact ⟨Nat.le_succ _, h⟩
theorem rkUp_keep {r s d : Nat} (h : rkUp acc f g r s = some d) : rkUp acc f g (r + 1) s = some d := by
  rw [rkUp_some] at h ⊢
  exact ⟨by omega, h.2⟩
theorem rkUp_new {r s : Nat} (h : rkUp acc f g r s = none) : rkUp acc f g (r + 1) s = if rkUp acc f g r (f s) = some r ∨ rkUp acc f g r (g s) = some r then some (r + 1) else none := by
  have h0 := rkUp_none.mp h
  have low : ∀ j, j < r → canK acc f g j (f s) = false ∧ canK acc f g j (g s) = false := fun j hj => by
    have := h0 (j + 1) (by omega)
    exact Bool.or_eq_false_iff.mp this
  split
  · rename_i hc
    refine rkUp_some.mpr ⟨Nat.le_refl _, ?_, fun j hj => h0 j (by omega)⟩
    show (canK acc f g r (f s) || canK acc f g r (g s)) = true
    rcases hc with hc | hc
    · rw [(rkUp_some.mp hc).2.1, Bool.true_or]
    · rw [(rkUp_some.mp hc).2.1, Bool.or_true]
  · rename_i hc
    refine rkUp_none.mpr fun j hj => ?_
    by_cases hj' : j ≤ r
    · exact h0 j hj'
    · have : j = r + 1 := by omega
      subst this
      show (canK acc f g r (f s) || canK acc f g r (g s)) = false
      rw [Bool.or_eq_false_iff]
      constructor
      · refine Bool.eq_false_iff.mpr fun z => hc (.inl ?_)
        exact rkUp_some.mpr ⟨Nat.le_refl _, z, fun j hj => (low j hj).1⟩
      · refine Bool.eq_false_iff.mpr fun z => hc (.inr ?_)
        exact rkUp_some.mpr ⟨Nat.le_refl _, z, fun j hj => (low j hj).2⟩
/-- when no state has the rank r, all ranks are found -/
theorem rkUp_done {n r : Nat} (hf : ∀ x, x < n → f x < n) (hg : ∀ x, x < n → g x < n) (h : ∀ s, s < n → rkUp acc f g r s ≠ some r) {s : Nat} (hs : s < n) : IsRank acc f g s (rkUp acc f g r s) := by
  have base : ∀ s, s < n → canK acc f g r s = true → ∃ j, j < r ∧ canK acc f g j s = true := fun s hs hc => by
    refine Classical.byContradiction fun z => h s hs (rkUp_some.mpr ⟨Nat.le_refl _, hc, fun j hj => Bool.eq_false_iff.mpr fun y => z ⟨j, hj, y⟩⟩)
  have all : ∀ d s, s < n → canK acc f g (r + d) s = true → ∃ j, j < r ∧ canK acc f g j s = true := by
    intro d
    induction d with
    | zero => exact base
    | succ d ih =>
      intro s hs hc
      have hc' : (canK acc f g (r + d) (f s) || canK acc f g (r + d) (g s)) = true := hc
      rw [Bool.or_eq_true] at hc'
      have up : ∀ j, j < r → (canK acc f g j (f s) = true ∨ canK acc f g j (g s) = true) → ∃ j, j < r ∧ canK acc f g j s = true := fun j hj hh => by
        have h1 : canK acc f g (j + 1) s = true := by
          show (canK acc f g j (f s) || canK acc f g j (g s)) = true
          rw [Bool.or_eq_true]
          exact hh
        by_cases hjr : j + 1 < r
        · exact ⟨j + 1, hjr, h1⟩
        · have : j + 1 = r := by omega
          rw [this] at h1
          exact base s hs h1
      rcases hc' with hc' | hc'
      · obtain ⟨j, hj, h2⟩ := ih _ (hf s hs) hc'
        exact up j hj (.inl h2)
      · obtain ⟨j, hj, h2⟩ := ih _ (hg s hs) hc'
        exact up j hj (.inr h2)
  cases e : rkUp acc f g r s with
  | some d => exact (rkUp_some.mp e).2
  | none =>
    have h0 := rkUp_none.mp e
    intro k
    by_cases hk : k ≤ r
    · exact h0 k hk
    · refine Bool.eq_false_iff.mpr fun z => ?_
      have ek : k = r + (k - r) := by omega
      rw [ek] at z
      obtain ⟨j, hj, h2⟩ := all _ s hs z
      rw [h0 j (by omega)] at h2
      cases h2
theorem rank_lt {n : Nat} (hf : ∀ x, x < n → f x < n) (hg : ∀ x, x < n → g x < n) {r s : Nat} (hs : s < n) (h : IsRank acc f g s (some r)) : r < n := by
  have down : ∀ d s, s < n → IsRank acc f g s (some d) → ∀ i, i ≤ d → ∃ x, x < n ∧ IsRank acc f g x (some i) := by
    intro d
    induction d with
    | zero =>
      intro s hs h i hi
      have : i = 0 := by omega
      subst this
      exact ⟨s, hs, h⟩
    | succ d ih =>
      intro s hs h i hi
      by_cases e : i = d + 1
      · subst e; exact ⟨s, hs, h⟩
      · have h1 : (canK acc f g d (f s) || canK acc f g d (g s)) = true := h.1
        have h2 : ∀ j, j < d → canK acc f g j (f s) = false ∧ canK acc f g j (g s) = false := fun j hj => Bool.or_eq_false_iff.mp (h.2 (j + 1) (by omega))
        rw [Bool.or_eq_true] at h1
        rcases h1 with h1 | h1
        · exact ih (f s) (hf s hs) ⟨h1, fun j hj => (h2 j hj).1⟩ i (by omega)
        · exact ih (g s) (hg s hs) ⟨h1, fun j hj => (h2 j hj).2⟩ i (by omega)
  refine Nat.lt_of_not_le fun hr => ?_
  have pick : ∀ i, ∃ x, i ≤ n → x < n ∧ IsRank acc f g x (some i) := fun i => by
    by_cases hi : i ≤ n
    · obtain ⟨x, h1, h2⟩ := down r s hs h i (by omega)
      exact ⟨x, fun _ => ⟨h1, h2⟩⟩
    · exact ⟨0, fun z => absurd z hi⟩
  obtain ⟨F, hF⟩ : ∃ F : Nat → Nat, ∀ i, i ≤ n → F i < n ∧ IsRank acc f g (F i) (some i) := ⟨fun i => Classical.choose (pick i), fun i => Classical.choose_spec (pick i)⟩
  obtain ⟨i, j, hij, hj, e⟩ := pigeon n F fun i hi => (hF i hi).1
  have h1 := (hF i (by omega)).2
  have h2 := (hF j hj).2
  rw [e] at h1
  have := Option.some.inj (h1.uniq h2)
  omega
/-! a search from the start -/
def rch (f g : Nat → Nat) (s : Nat) : Nat → Nat → Prop
  | 0, x => x = s
  | k + 1, y => ∃ x, rch f g s k x ∧ (y = f x ∨ y = g x)
theorem rch_cons : ∀ (k s y : Nat), rch f g s (k + 1) y ↔ rch f g (f s) k y ∨ rch f g (g s) k y
  | 0, s, y => by
    constructor
    · rintro ⟨x, rfl, h⟩; exact h
    · intro h; exact ⟨s, rfl, h⟩
  | k + 1, s, y => by
    constructor
    · rintro ⟨x, h, hy⟩
      rcases (rch_cons k s x).mp h with h | h
      · exact .inl ⟨x, h, hy⟩
      · exact .inr ⟨x, h, hy⟩
    · rintro (⟨x, h, hy⟩ | ⟨x, h, hy⟩)
      · exact ⟨x, (rch_cons k s x).mpr (.inl h), hy⟩
      · exact ⟨x, (rch_cons k s x).mpr (.inr h), hy⟩
theorem canK_rch : ∀ (k s : Nat), canK acc f g k s = true ↔ ∃ x, rch f g s k x ∧ acc x = true
  | 0, s => by
    constructor
    · intro h; exact ⟨s, rfl, h⟩
    · rintro ⟨x, rfl, h⟩; exact h
  | k + 1, s => by
    show (canK acc f g k (f s) || canK acc f g k (g s)) = true ↔ _
    rw [Bool.or_eq_true, canK_rch k (f s), canK_rch k (g s)]
    constructor
    · rintro (⟨x, h, ha⟩ | ⟨x, h, ha⟩)
      · exact ⟨x, (rch_cons k s x).mpr (.inl h), ha⟩
      · exact ⟨x, (rch_cons k s x).mpr (.inr h), ha⟩
    · rintro ⟨x, h, ha⟩
      rcases (rch_cons k s x).mp h with h | h
      · exact .inl ⟨x, h, ha⟩
      · exact .inr ⟨x, h, ha⟩
theorem nodup_len {n : Nat} : ∀ {l : List Nat}, l.Nodup → (∀ x ∈ l, x < n) → l.length ≤ n := fun {l} h1 h2 => by
  refine Nat.le_of_not_lt fun hlt => ?_
  obtain ⟨i, j, hij, hj, e⟩ := pigeon n (fun i => l.getD i 0) fun i hi => by
    show l.getD i 0 < n
    rw [List.getD_eq_getElem?_getD, List.getElem?_eq_getElem (by omega)]
    exact h2 _ (List.getElem_mem _)
  have := List.pairwise_iff_getElem.mp h1 i j (by omega) (by omega) hij
  refine this ?_
  have e' : l.getD i 0 = l.getD j 0 := e
  rw [List.getD_eq_getElem?_getD, List.getD_eq_getElem?_getD, List.getElem?_eq_getElem (by omega), List.getElem?_eq_getElem (by omega)] at e'
  exact e'
structure BF (acc : Nat → Bool) (f g : Nat → Nat) (n s : Nat) (k : Nat) (old layer : List Nat) : Prop where
  lt : ∀ x ∈ old ++ layer, x < n
  nd : (old ++ layer).Nodup
  b : ∀ x ∈ layer, rch f g s k x
  c : ∀ j x, j < k → rch f g s j x → x ∈ old
  d : ∀ x ∈ old, f x ∈ old ++ layer ∧ g x ∈ old ++ layer
  e : ∀ x ∈ old, acc x = false
  r : ∀ x, rch f g s k x → x ∈ old ++ layer
  l : layer = [] ∨ k + 1 ≤ (old ++ layer).length
theorem BF.start {n s : Nat} (hs : s < n) : BF acc f g n s 0 [] [s] :=
  ⟨fun x hx => by rw [List.nil_append, List.mem_singleton] at hx; omega, by simp, fun x hx => List.mem_singleton.mp hx, fun j x hj => absurd hj (Nat.not_lt_zero _), (fun _ h => nomatch h), (fun _ h => nomatch h), fun x hx => List.mem_singleton.mpr hx, .inr (by simp)⟩
theorem BF.found {n s k : Nat} {old layer : List Nat} (h : BF acc f g n s k old layer) (hx : ∃ x ∈ layer, acc x = true) : IsRank acc f g s (some k) := by
  obtain ⟨x, h1, h2⟩ := hx
  refine ⟨(canK_rch k s).mpr ⟨x, h.b x h1, h2⟩, fun j hj => Bool.eq_false_iff.mpr fun z => ?_⟩
  obtain ⟨y, h3, h4⟩ := (canK_rch j s).mp z
  rw [h.e y (h.c j y hj h3)] at h4
  cases h4
theorem BF.next {n s k : Nat} {old layer more : List Nat} (h : BF acc f g n s k old layer) (hno : ∀ x ∈ layer, acc x = false) (nd : (old ++ layer ++ more).Nodup) (lt : ∀ x ∈ more, x < n)
    (from_ : ∀ y ∈ more, ∃ x ∈ layer, y = f x ∨ y = g x) (all : ∀ x ∈ layer, f x ∈ old ++ layer ++ more ∧ g x ∈ old ++ layer ++ more) : BF acc f g n s (k + 1) (old ++ layer) more := by
  have sub : ∀ x, x ∈ old ++ layer → x ∈ old ++ layer ++ more := fun x hx => List.mem_append_left _ hx
  have d' : ∀ x ∈ old ++ layer, f x ∈ old ++ layer ++ more ∧ g x ∈ old ++ layer ++ more := fun x hx => by
    rcases List.mem_append.mp hx with hx | hx
    · exact ⟨sub _ (h.d x hx).1, sub _ (h.d x hx).2⟩
    · exact all x hx
  refine ⟨fun x hx => ?_, nd, fun y hy => ?_, fun j x hj hr => ?_, d', fun x hx => ?_, ?_, ?_⟩
  · rcases List.mem_append.mp hx with hx | hx
    · exact h.lt x hx
    · exact lt x hx
  · obtain ⟨x, hx, e⟩ := from_ y hy
    exact ⟨x, h.b x hx, e⟩
  · by_cases hjk : j < k
    · exact List.mem_append_left _ (h.c j x hjk hr)
    · have : j = k := by omega
      subst this
      exact h.r x hr
  · rcases List.mem_append.mp hx with hx | hx
    · exact h.e x hx
    · exact hno x hx
  · rintro y ⟨x, hx, e⟩
    have hx2 := d' x (h.r x hx)
    rcases e with e | e
    · rw [e]; exact hx2.1
    · rw [e]; exact hx2.2
  · cases hm : more with
    | nil => exact .inl rfl
    | cons y m =>
      right
      obtain ⟨x, hx, _⟩ := from_ y (by rw [hm]; exact List.mem_cons_self)
      rcases h.l with hl | hl
      · rw [hl] at hx; cases hx
      · rw [List.length_append, List.length_cons]
        omega
theorem BF.end_ {n s : Nat} {old layer : List Nat} (h : BF acc f g n s (n + 1) old layer) : IsRank acc f g s none := by
  have hl : layer = [] := by
    rcases h.l with hl | hl
    · exact hl
    · have := nodup_len h.nd h.lt
      omega
  subst hl
  have cl : ∀ k x, rch f g s k x → x ∈ old := by
    intro k
    induction k with
    | zero => intro x hx; exact h.c 0 x (Nat.succ_pos _) hx
    | succ k ih =>
      rintro y ⟨x, hx, e⟩
      have := h.d x (ih x hx)
      rw [List.append_nil] at this
      rcases e with e | e
      · rw [e]; exact this.1
      · rw [e]; exact this.2
  intro k
  refine Bool.eq_false_iff.mpr fun z => ?_
  obtain ⟨x, h1, h2⟩ := (canK_rch k s).mp z
  rw [h.e x (cl k x h1)] at h2
  cases h2
end
end Dw

namespace Dw
open PySem PySem.Spec PyProof.Rows L2 SX
def oV : Option Nat → V
  | none => .non
  | some k => nv k
theorem oV_flat (o : Option Nat) : flatV (oV o) = true := by cases o <;> rfl
theorem eqV_o (o : Option Nat) (k : Nat) : eqV (oV o) (nv k) = decide (o = some k) := by
  cases o with
  | none => rfl
  | some j =>
    show ((j : Int) == (k : Int)) = decide (some j = some k)
    rw [Bool.eq_iff_iff, beq_iff_eq, decide_eq_true_eq]
    constructor
    · intro h; rw [show j = k by omega]
    · intro h; rw [Option.some.inj h]
theorem inV_o (k : Nat) : ∀ L : List (Option Nat), inV (nv k) (L.map oV) = decide (some k ∈ L)
  | [] => by simp [inV]
  | o :: L => by
    have ih := inV_o k L
    unfold inV at ih ⊢
    rw [List.map_cons, List.any_cons, ih, eqV_o]
    by_cases h : o = some k
    · simp [h]
    · have : ¬ (some k = o) := fun e => h e.symm
      simp [h, this]
theorem flat_o (L : List (Option Nat)) : (L.map oV).all flatV = true := by
  rw [List.all_eq_true]
  intro v hv
  obtain ⟨o, _, rfl⟩ := List.mem_map.mp hv
  exact oV_flat o
theorem wt0 (t v : Nat) : wt 0 t v = 2 ^ t * v := by simp [wt]
theorem oset (n k : Nat) (o : Option Nat) (h : Nat → Option Nat) : ((List.range n).map fun s => oV (h s)).set k (oV o) = (List.range n).map fun s => oV (if s = k then o else h s) := by
  refine List.ext_getElem (by simp) fun i h1 h2 => ?_
  rw [List.getElem_set]
  simp only [List.getElem_map, List.getElem_range]
  by_cases e : k = i
  · rw [if_pos e, if_pos e.symm]
  · rw [if_neg e, if_neg fun z => e z.symm]
theorem inV_n (k : Nat) : ∀ L : List Nat, inV (nv k) (L.map nv) = decide (k ∈ L)
  | [] => by simp [inV]
  | o :: L => by
    have ih := inV_n k L
    unfold inV at ih ⊢
    rw [List.map_cons, List.any_cons, ih]
    show (((o : Int) == (k : Int)) || _) = _
    by_cases h : o = k
    · subst h; simp
    · have h1 : ((o : Int) == (k : Int)) = false := by
        rw [beq_eq_false_iff_ne]
        omega
      have : ¬ (k = o) := fun e => h e.symm
      simp [h1, this]
theorem flat_n (L : List Nat) : (L.map nv).all flatV = true := by
  rw [List.all_eq_true]
  intro v hv
  obtain ⟨o, _, rfl⟩ := List.mem_map.mp hv
  rfl
def keepA (A : Nat → Bool) : V → Bool
  | .int i => A i.toNat
  | _ => false
theorem keepA_map (A : Nat → Bool) (L : List Nat) : (L.map nv).filter (keepA A) = (L.filter A).map nv := by
  rw [List.filter_map]
  rfl
/-- a comprehension with a test over a list -/
theorem lc_filtN {K : PySem.W.Frag} {a : Addr} {xs : List V} {g : TG} {tt : TT} {te : TE} {vs : List Nat} {σ : L2.St} {H1 : Hp} {D : Addr} {Qd : Hp → Prop} (keep : V → Bool) (hx : SqL K H1 a xs) (hn : xs.length ≤ 10000) (hD : H1 D = none)
    (hs : ∀ (i : Nat) (x : V) (H : Hp) (Y : VK) (Nn : Hp → Prop), xs[i]? = some x → Same H1 H → (keep x = true → ∀ H', Same H H' → Y x H') → (keep x = false → ∀ H', Same H H' → Nn H') → g x (wipe σ vs) H fun σ2 H2 => wipe σ2 vs = wipe σ vs ∧ tt σ2 H2 fun b H3 => if b = true then te σ2 H3 Y else Nn H3)
    (hd : ∀ H, Same H1 H → H D = some (.lst (xs.filter keep)) → Qd H) : LcJ (Itl K a) g tt te vs D σ H1 Qd := by
  refine lc_listN (xs := xs) (fun i H => Same H1 H ∧ H D = some (.lst ((xs.take i).filter keep))) ⟨same_upd hD, upd_same⟩ (fun i H _ p => p.1.seq hx) (fun i x H N hi p hN => ?_) (fun H p => hd H p.1 (by rw [p.2, List.take_length]))
  obtain ⟨s1, hDl⟩ := p
  refine hs i x H (fun y H4 => ∃ acc, H4 D = some (.lst acc) ∧ acc.length < sizeLine ∧ N (upd H4 D (.lst (acc ++ [y])))) N hi s1 (fun hk H2 s2 => ⟨_, s2 _ _ hDl, ?_, hN _ ⟨Dw.Same.new (s1.trans s2) hD, ?_⟩⟩) (fun hk H2 s2 => hN _ ⟨s1.trans s2, ?_⟩)
  · have := List.length_filter_le keep (xs.take i)
    rw [List.length_take] at this
    exact smallt (by omega)
  · rw [upd_same, List.take_add_one, hi, List.filter_append]
    simp [hk]
  · rw [s2 _ _ hDl, List.take_add_one, hi, List.filter_append]
    simp [hk]
def oD : Option Nat → PyData
  | none => .none
  | some k => .int (k : Int)
theorem os_lay : ∀ L : List (Option Nat), PyData.canLayAll0 (L.map oD) = true
  | [] => by simp [PyData.canLayAll0]
  | none :: r => by simp [PyData.canLayAll0, oD, PyData.canLay0, os_lay r]
  | some n :: r => by simp [PyData.canLayAll0, oD, PyData.canLay0, os_lay r]
theorem os_depth : ∀ L : List (Option Nat), PyData.depthAll (L.map oD) = 0
  | [] => by simp [PyData.depthAll]
  | none :: r => by simp [PyData.depthAll, oD, PyData.depth, os_depth r]
  | some n :: r => by simp [PyData.depthAll, oD, PyData.depth, os_depth r]
theorem os_dp {K : PySem.W.Frag} {H : Hp} : ∀ L : List (Option Nat), DpAll K H (L.map oV) (L.map oD)
  | [] => .nil
  | none :: r => .cons .non (os_dp r)
  | some n :: r => .cons (.int _) (os_dp r)
theorem os_shaped (L : List (Option Nat)) : SeqAt.shaped (.list (L.map oD)) = true := by
  simp [SeqAt.shaped, PyData.canLay0, PyData.depth, os_lay L, os_depth]
theorem oV_inj {a b : Option Nat} (h : oV a = oV b) : a = b := by
  cases a <;> cases b
  · rfl
  · cases h
  · cases h
  · have := V.int.inj h
    congr 1
    omega
end Dw

namespace Dw
open PySem PySem.Spec PyProof.Rows L2 SX NdefX LamX
/-! defs of the module that take a function made within another def and call it -/
/-- what the caller shows of the handed function's cells -/
structure CbG (cl : List (Str × Addr)) (fr : List Str) (ws : List (Option V)) (outer : List Env) (h : Heap) (H : Hp) : Prop where
  cells : CellsAt cl fr ws h H
  nf : ∀ y c, cl.lookup y = some c → c ∉ frs outer
/-- a def's promise where G stands at the call -/
structure FnG (P : Program) (w : World) (K : PySem.W.Frag) (mg : Str → Option Value) (base : Heap) (CX : CXT) (k : Nat) (f : Addr) (fd : FuncData) (ps : List Str) (G : List Env → Heap → Hp → Prop) (sp : Sp) : Prop where
  len : ∀ vs H Q E, sp vs H Q E → vs.length = ps.length
  go : ∀ (A : Around) (fs : List Env) (st : Shared) (H : Hp) (as : Args) (us : List Value) (vs : List V) (Q : VK) (E : XK), Room k A → Env0 P w K mg base A fs st H → G fs st.heap H → BindsTo st fd as (ps.zip us) → Vals vs us → sp vs H Q E →
    codeAny (model P w) A (.call (.ref f) as) (CR CX fs P w H st Q E) st
theorem fnG_of {CX : CXT} {P : Program} {w : World} {K : PySem.W.Frag} {mg : Str → Option Value} {base : Heap} {k : Nat} {f : Addr} {nm ql : Str} {pr : Arguments} {bd : List Stmt} {sc : Scope} {d1 d2 d3 d4 cdv d5 d6 : Value} {o1 o2 : Option Addr} {sl : Array (Option Value)} {N ps : List Str} {G : List Env → Heap → Hp → Prop} {sp : Sp}
    (lk : K.lookup f = some ⟨d6, o2, .func (PySem.W.fnOf nm ql pr bd sc d1 d2 d3 d4 o1 cdv d5), sl⟩) (hcd : PySem.W.codeIn K cdv ql = true) (S : FnScope N ps sc) (len : ∀ vs H Q E, sp vs H Q E → vs.length = ps.length)
    (body : ∀ (A : Around) (fs : List Env) (st : Shared) (H : Hp) (vs : List V) (Q : VK) (E : XK), Room k (A.deeper (envOfC ql sc st.heap.objs.size f cdv)) → G fs st.heap H → sp vs H Q E → ∃ t, PSs (cxOf CX P w K mg base N ql sc f cdv A fs st H E) bd t ∧ t { nx := fun _ H' => Q .non H', rt := Q } (start N vs) H) :
    FnG P w K mg base CX (k + 1) f (PySem.W.fnOf nm ql pr bd sc d1 d2 d3 d4 o1 cdv d5) ps G sp := by
  constructor
  · exact len
  intro A fs st H as us vs Q E hr e0 g hb r hsp
  have kin0 := e0.mod.kin.keeps fun b o e => (e0.bs b o e).1
  have nol := e0.mod.nolimit.keeps fun b o e => (e0.bs b o e).1
  have kinds : ∀ y ∈ ps.zip us, sc.names.lookup y.1 = some .local ∨ (sc.names.lookup y.1 = some .cell ∧ ((cellsFrom (st.heap.objs.size + 1) sc.names []).lookup y.1).isSome = true) := by
    rintro ⟨n, v⟩ hy
    exact (S.par n (List.of_mem_zip hy).1).imp id fun q => ⟨q, PySem.W.cellsFrom_some _ _ _ (.inl q)⟩
  refine codeAny_call_function hr.depth (kin0 _ _ lk) rfl S.co S.gen rfl (PySem.W.codeRec_of kin0 hcd) (hb _ _ _ _ (wpAny_newFunctionEnv_cells S.kind kinds fun env he s1 x => ?_))
  subst he
  obtain ⟨t, ht, hq⟩ := body A fs st H vs Q E (hr.deeper _) g hsp
  have I := inv_start (CX := CX) (E := E) (cd := cdv) S hr.hd e0 (len _ _ _ _ hsp) r x
  refine ⟨nol.keeps x.toInCall.keep, codeAny_func (wpAny_mono (ht.run [] s1 (start N vs) H _ I hq) (fun fl s' hs => ?_) fun _ _ z => z)⟩
  match fl, hs with
  | .ret _, ⟨_, _, _, J, rv, q⟩ => exact ⟨_, _, J.os, J.bare, J.base, J.hok, rv, q⟩
  | .next, ⟨_, _, J, q⟩ => exact ⟨V.non, _, J.os, J.bare, J.base, J.hok, rfl, q⟩
  | .brk, ⟨_, _, _, q⟩ => exact False.elim q
  | .cont, ⟨_, _, _, q⟩ => exact False.elim q
/-- such a def under its name -/
structure CalG (P : Program) (w : World) (K : PySem.W.Frag) (mg : Str → Option Value) (base : Heap) (k : Nat) (x : Str) (G : List Env → Heap → Hp → Prop) (sp : Sp) : Prop where
  ex : ∃ (f : Addr) (fd : FuncData) (ps : List Str), FnG P w K mg base (L2.CX P w) k f fd ps G sp ∧ mg x = some (.ref f) ∧ PySem.W.keepIn K (.ref f) = true ∧ Binds K fd ps []
section
variable {P : Program} {w : World} {K : PySem.W.Frag} {mg : Str → Option Value} {base : Heap}
theorem calG0 {x : Str} {st : Stmt} {f : Addr} {fd : FuncData} {N ps : List Str} {k : Nat} {G : List Env → Heap → Hp → Prop} {sp : Sp} (F : C8.Def K mg x st f fd) (b : Binds K fd ps []) (S : FnScope N ps (C8.fnScope st)) (len : ∀ vs H Q E, sp vs H Q E → vs.length = ps.length)
    (body : ∀ (cdv : Value) (A : Around) (outer : List Env) (s : Shared) (H : Hp) (vs : List V) (Q : VK) (E : XK), Room k (A.deeper (envOfC x (C8.fnScope st) s.heap.objs.size f cdv)) → G outer s.heap H → sp vs H Q E →
      ∃ t, PSs (cxOf (L2.CX P w) P w K mg base N x (C8.fnScope st) f cdv A outer s H E) (C8.fnBody st) t ∧ t { nx := fun _ H' => Q .non H', rt := Q } (start N vs) H) : CalG P w K mg base (k + 1) x G sp := by
  obtain ⟨oc, od, dV, kV, doc, pm, an, cdv, ct, osl, rfl, lk, hcd⟩ := F.fn.ex
  exact ⟨_, _, ps, fnG_of lk hcd S len fun A fs s H vs Q E hr g h => body cdv A fs s H vs Q E hr g h, F.mgf, F.kp, b⟩
end
/-- the cells of the def that makes the function are no frames that run -/
theorem cbG_of {X : Cx} {pins : List (Addr × Obj)} {σ : L2.St} {H : Hp} {s : Shared} {cl : List (Str × Addr)} {fr : List Str} {js : List Nat} (I : Inv X pins σ H s) (c : Caps X cl fr js) (hfn : ∀ y, X.fn y = true) : CbG cl fr (js.map (slotAt σ)) X.stack s.heap H := by
  refine ⟨cells_of I c, fun y a e hb => ?_⟩
  have ea := c.sub y a e
  rcases List.mem_cons.mp (I.stkSub a hb) with z | z
  · exact I.cne y a ea z
  · obtain ⟨_, o, ho, _⟩ := I.ok.funs.mem z
    exact absurd (Heap.lt_size ho) (Nat.not_lt.mpr (I.ok.cab y a (hfn y) ea))
/-- its call; js: the slots of the names that the handed function captured -/
def tCallG (js : List Nat) (sp : List (Option V) → Sp) (E : XK) (t : TA) : TE := fun σ H Q => t σ H fun vs H1 => sp (js.map (slotAt σ)) vs H1 Q E
section
variable {X : Cx} {k j : Nat} {x : Str} {p pos : Pos} {e : Expr} {es : List Expr} {t : TA} {E : XK}
theorem pe_cG {cl : List (Str × Addr)} {fr : List Str} {js : List Nat} {sp : List (Option V) → Sp} (c : ∀ ws, CalG X.prog X.w X.K X.mg X.base k x (CbG cl fr ws) (sp ws)) (cp : X.Ok → Caps X cl fr js) (hfn : ∀ y, X.fn y = true) (hr : Room j X.A) (hk : k ≤ j) (hx : Passes (L2.CX X.prog X.w) X E) (hg : Gl X x) (ha : PA X (e :: es) t)
    (hdb : (x == ("__debug__" : Str)) = false := by decide) (he : starEach (e :: es) X.env = (false, eval e X.env) :: starEach es X.env := by rfl) (hpl : (backTo pos (starEach es X.env)).any (·.1) = false := by rfl) :
    PE X (.Call (.Name x p) (e :: es) [] pos) (tCallG js sp E t) := by
  refine ⟨fun pins s σ H Q I h => ?_⟩
  obtain ⟨f, fd, ps, F, hm, kp, b⟩ := (c (js.map (slotAt σ))).ex
  refine wpAny_Call_Name_kw (ld_glob I hg hm (PySem.W.callWith_K (h₀ := X.base) I.ok.mod.kin kp (thn (ha.run pos pins s σ H _ I h) fun us s1 ⟨vs, H1, I1, r, q⟩ => ⟨I1.kIn, ?_⟩) he hpl) hdb)
  have hl : (us ++ []).length = ps.length := by rw [List.append_nil, ← r.length]; exact F.len _ _ _ _ q
  have bt := b s1 us I1.kIn hl
  rw [List.append_nil] at bt
  refine wpAny_call (codeAny_mono (F.go X.A X.stack s1 H1 ⟨us, []⟩ us vs Q E (hr.mono hk) I1.env0 (cbG_of I1 (cp I1.ok) hfn) bt r q) fun rs s' hq => ?_)
  match rs, hq with
  | .error e, hq => exact hx pins σ H1 s1 e s' I1 hq
  | .ok (.ret u), hq => exact I1.after hq
  | .ok .next, hq => exact False.elim hq
  | .ok .brk, hq => exact False.elim hq
  | .ok .cont, hq => exact False.elim hq
/-- in that def: the call of the handed function -/
def tCb (F : NF) (i : Nat) (sp : Sp) (E : XK) (t : TA) : TE := fun σ H Q => ∃ f, σ[i]? = some (some (.ref f)) ∧ H f = some (FnO f F) ∧ t σ H fun vs H1 => H1 f = some (FnO f F) ∧ H1 F.c = some (CodeO F.c F.qual) ∧ sp vs H1 Q E
theorem pe_cb {CX : CXT} {F : NF} {ps fr : List Str} {ws : List (Option V)} {sp : List (Option V) → Sp} {i : Nat} (Fn : ∀ f, NOk X.prog X.w X.K X.mg X.base CX k f F ps fr sp) (g : CbG F.cl fr ws X.outer X.s_0.heap X.H_0) (hex : X.ex = []) (hr : Room j X.A) (hk : k ≤ j) (hx : Passes CX X E) (hN : X.N[i]? = some x) (hv : Vis X.env.scope x) (ha : PA X (e :: es) t)
    (hd : (x == ("__debug__" : Str)) = false := by decide) (hcd : (x == ("__classdict__" : Str)) = false := by decide)
    (he : starEach (e :: es) X.env = (false, eval e X.env) :: starEach es X.env := by rfl) (hpl : (backTo pos (starEach es X.env)).any (·.1) = false := by rfl) : PE X (.Call (.Name x p) (e :: es) [] pos) (tCb F i (sp ws) E t) := by
  refine ⟨fun pins s σ H Q I ⟨f, hs, hf, ht⟩ => wpAny_Call_Name_kw (thn ((pe_var (pos := p) hN hv hd hcd).run pins s σ H (fun v H1 => v = .ref f ∧ H1 = H) I ⟨.ref f, hs, rfl, rfl⟩) fun u s1 ⟨v, H1, I1, r1, ev, eH⟩ => ?_)⟩
  subst ev eH
  obtain rfl : u = Value.ref f := r1
  refine PySem.W.callWith_F (first := []) (fnAt_of I1 hf) (thn (ha.run pos pins s1 σ H1 _ I1 ht) fun us s2 ⟨vs, H2, I2, r, h1, h2, q⟩ => ⟨fnAt_of I2 h1, ?_⟩) he hpl
  have C := g.cells.later g.nf (fun _ _ _ => by rw [hex]; exact List.not_mem_nil) I2
  refine wpAny_call (codeAny_mono ((Fn f).run X.A X.stack s2 H2 us vs ws Q E (hr.mono hk) I2.env0 h1 h2 C r q) fun rs s' hq => ?_)
  match rs, hq with
  | .error e, hq => exact hx pins σ H2 s2 e s' I2 hq
  | .ok (.ret u), hq => exact I2.after hq
  | .ok .next, hq => exact False.elim hq
  | .ok .brk, hq => exact False.elim hq
  | .ok .cont, hq => exact False.elim hq
end
/-- all but tables of code objects stays -/
structure ExtT (H H' : Hp) : Prop where
  keep : ExtN H H'
  free : ∀ b, H' b = none → H b = none
theorem ExtT.of {H H' : Hp} (s : Same H H') : ExtT H H' := ⟨fun b o e _ => s b o e, fun b e => s.free e⟩
theorem ExtT.trans {H H1 H2 : Hp} (a : ExtT H H1) (b : ExtT H1 H2) : ExtT H H2 := ⟨fun x o e n => b.keep x o (a.keep x o e n) n, fun x e => a.free x (b.free x e)⟩
theorem ExtT.lst {H H' : Hp} (s : ExtT H H') {a : Addr} {xs : List V} (e : H a = some (.lst xs)) : H' a = some (.lst xs) := s.keep a _ e (fun _ h => by cases h)
theorem ExtT.tup {H H' : Hp} (s : ExtT H H') {a : Addr} {xs : List V} (e : H a = some (.tup xs)) : H' a = some (.tup xs) := s.keep a _ e (fun _ h => by cases h)
end Dw
namespace Dw
open PySem PySem.Spec PyProof.Rows L2 SX NdefX LamX
section
variable {P : Program} {w : World} {K : PySem.W.Frag} {mg : Str → Option Value} {base : Heap}
/-- a def whose code object's address is known -/
theorem calXK {x : Str} {st : Stmt} {f c : Addr} {oc dV kV doc pm ct : Value} {od an : Option Addr} {osl : Array (Option Value)} {N ps : List Str} {k : Nat} {sp : Sp} (lk : K.lookup f = some ⟨oc, od, .func (PySem.W.fnOf x x (C8.fnArgs st) (C8.fnBody st) (C8.fnScope st) dV kV doc pm an (.ref c) ct), osl⟩) (hcd : PySem.W.codeIn K (.ref c) x = true) (hm : mg x = some (.ref f)) (kp : PySem.W.keepIn K (.ref f) = true)
    (b : Binds K (PySem.W.fnOf x x (C8.fnArgs st) (C8.fnBody st) (C8.fnScope st) dV kV doc pm an (.ref c) ct) ps []) (S : FnScope N ps (C8.fnScope st)) (len : ∀ vs H Q E, sp vs H Q E → vs.length = ps.length)
    (body : ∀ (A : Around) (outer : List Env) (s : Shared) (H : Hp) (vs : List V) (Q : VK) (E : XK), Room k (A.deeper (envOfC x (C8.fnScope st) s.heap.objs.size f (.ref c))) → sp vs H Q E →
      ∃ t, PSs (cxOf (L2.CX P w) P w K mg base N x (C8.fnScope st) f (.ref c) A outer s H E) (C8.fnBody st) t ∧ t { nx := fun _ H' => Q .non H', rt := Q } (start N vs) H) : CalX P w K mg base (k + 1) x sp :=
  ⟨f, _, ps, fn_of lk hcd S len fun A outer s H vs Q E hr h => body A outer s H vs Q E hr h, hm, kp, b⟩
end
/-- whether a text is a key of a written table -/
def KAt (K : PySem.W.Frag) (w : World) (a : Addr) (z : Str) (b : Bool) : Prop := ∃ es n r, K.lookup a = some ⟨.type "dict", none, .dict es n, #[]⟩ ∧ PySem.W.KeysLit w.params es.toList ∧ (a == sysModules) = false ∧ PySem.W.nsIn K a z = some r ∧ r.isSome = b
def rKNo (K : PySem.W.Frag) (w : World) : R2 := fun x y H Q => ∃ (a : Addr) (z : Str) (b : Bool), y = .ref a ∧ x = .str z ∧ KAt K w a z b ∧ Q (.bl (!b)) H
theorem op_kNo {X : Cx} : OpR X (compareOp .NotIn) (rKNo X.K X.w) := by
  intro pins s σ H x y v u Q I rx ry h
  obtain ⟨a, z, b, rfl, rfl, ⟨es, n, r, hl, hk, low, h1, h2⟩, q⟩ := h
  obtain ⟨t, rfl⟩ := (show ∃ t, v = Value.str z t from rx)
  obtain rfl : u = Value.ref a := ry
  refine wpAny_notIn_of (strKind_is X.prog X.w z t) low (PySem.W.mapOf_K (prog := X.prog) (w := X.w) I.kIn hl hk) ?_
  rw [PySem.W.find_K hl h1, h2]
  exact ⟨.bl (!b), H, I.tok _, rfl, q⟩
end Dw

namespace Dw
open PySem PySem.Spec PyProof.Rows L2 SX
/-! a display with one pair, its key a tuple; and dicts that number a list of tuples -/
def tDisp1T (tk tv : TE) : TE := fun σ H Q => ∀ p, H p = none → tk σ (upd H p (.dT [])) fun x H1 => tv σ H1 fun y H2 => H2 p = some (.dT []) ∧ ∃ (b : Addr) (ks : List L2.Key), x = .ref b ∧ H2 b = some (.tup (ks.map kV)) ∧ Q (.ref p) (upd H2 p (.dT [(ks, y)]))
theorem pe_disp1T {X : Cx} {k v : Expr} {pos : Pos} {tk tv : TE} (hu : X.A.units + 1 < cLine) (hk : PE X k tk) (hv : PE X v tv) : PE X (.Dict [some k] [v] pos) (tDisp1T tk tv) := by
  refine ⟨fun pins s σ H Q I q => ?_⟩
  have I1 := I.laid (t' := s.toks) (fun _ _ q => Heap.get?_push_of_some _ q) (Nat.le_refl _) (dt_empty (H := upd H s.heap.objs.size (.dT [])) s.heap I.big)
  rw [arm_eval_Dict, zip_pairTrees [some k] [v] X.env pos rfl rfl, dictDisplay_pairs (pairTrees [some k] [v] X.env pos) (List.cons_ne_nil _ _) (by show (1 : Nat) < 17; decide)]
  refine wpAny_bind (wpAny_standAt (wpAny_bind (wpAny_subDictH (knd := tupleKind (mixKind X.prog X.w)) (Q := fun d s' => wpAny (model X.prog X.w) X.A (pure (Value.ref d)) (EP X pins σ Q) X.xe s') (show X.A.units < cLine by omega) (by show (1 : Nat) ≤ 15; decide) ?_)))
  refine pairTrees_cons_walk (thn (hk.run pins _ σ _ _ I1 (q _ (I.hok.fresh (Nat.le_refl _)))) fun u s1 ⟨x, H1, I2, rx, q1⟩ => thn (hv.run pins s1 σ H1 _ I2 q1) fun w2 s2 ⟨y, H2, I3, ry, e, b, ks, ex, eb, q2⟩ => pairTrees_nil_walk ?_)
  subst ex
  cases (show u = Value.ref b from rx)
  obtain ⟨_, hd, xs, rel, dd⟩ := dt_of I3.hok e
  cases rel
  refine ⟨[(ks, b, w2)], ⟨rfl, rfl, key_of I3.hok eb, trivial⟩, dd, fun h' tk dd' hs => wpAny_pure ⟨.ref s.heap.objs.size, _, ?_, rfl, q2⟩⟩
  obtain ⟨o, es, ep, h1, h2, h3, h4, _, h5⟩ := dd'
  refine d_write I3 (by rw [e]; exact True.intro) hs ⟨o, h1⟩ ⟨by rw [sizeLine_eq]; exact (by decide : (1 : Nat) ≤ 16777216), hd, [(ks, b, w2)], .cons ⟨rfl, ?_, ry⟩ .nil, o, es, ep, h1, h2, h3, h4, h5⟩
  show upd H2 s.heap.objs.size _ b = _
  rw [upd_ne (ne_of eb e (fun z => nomatch z))]
  exact eb
end Dw
namespace Dw
open PySem PySem.Spec PyProof.Rows L2 SX
abbrev kyT (l : List Int) : List L2.Key := l.map Sum.inl
theorem kyT_inj {a b : List Int} (e : kyT a = kyT b) : a = b := by
  exact (List.map_inj_right fun _ _ h => Sum.inl.inj h).mp e
theorem kyT_V (l : List Int) : (kyT l).map kV = l.map V.int := by
  unfold kyT
  rw [List.map_map]
  rfl
/-- the labels, numbered from k on -/
def numT : Nat → List (List Int) → List (List L2.Key × V)
  | _, [] => []
  | k, l :: ls => (kyT l, nv k) :: numT (k + 1) ls
theorem numT_len : ∀ (k : Nat) (ls : List (List Int)), (numT k ls).length = ls.length
  | _, [] => rfl
  | k, l :: ls => by
    unfold numT
    rw [List.length_cons, List.length_cons, numT_len (k + 1) ls]
theorem numT_snoc : ∀ (k : Nat) (ls : List (List Int)) (l : List Int), numT k (ls ++ [l]) = numT k ls ++ [(kyT l, nv (k + ls.length))]
  | k, [], l => rfl
  | k, x :: ls, l => by
    rw [List.cons_append]
    unfold numT
    rw [numT_snoc (k + 1) ls l, List.cons_append, List.length_cons, show k + 1 + ls.length = k + (ls.length + 1) by omega]
theorem numT_no : ∀ (k : Nat) (ls : List (List Int)) (l : List Int), l ∉ ls → valV (numT k ls) (kyT l) = none
  | _, [], _, _ => rfl
  | k, x :: ls, l, h => by
    unfold numT
    rw [valV_neg (fun e => h (by rw [kyT_inj e]; exact List.mem_cons_self))]
    exact numT_no (k + 1) ls l fun z => h (List.mem_cons_of_mem _ z)
theorem numT_at : ∀ (k : Nat) (ls : List (List Int)) (l : List Int), l ∈ ls → ∃ i, ls[i]? = some l ∧ valV (numT k ls) (kyT l) = some (nv (k + i))
  | _, [], _, h => nomatch h
  | k, x :: ls, l, h => by
    unfold numT
    by_cases e : x = l
    · exact ⟨0, by rw [e]; rfl, by rw [valV_pos (by rw [e])]; rfl⟩
    · obtain ⟨i, h1, h2⟩ := numT_at (k + 1) ls l ((List.mem_cons.mp h).resolve_left fun z => e z.symm)
      exact ⟨i + 1, h1, by rw [valV_neg (fun z => e (kyT_inj z)), h2, show k + 1 + i = k + (i + 1) by omega]⟩
theorem numT_in {H : Hp} {d b : Addr} {ls : List (List Int)} {l : List Int} (e : H d = some (.dT (numT 0 ls))) (eb : H b = some (.tup (l.map V.int))) : DGet H d (.ref b) (valV (numT 0 ls) (kyT l)) := DGet.t e (by rw [kyT_V]; exact eb)
theorem numT_put {H : Hp} {d b : Addr} {ls : List (List Int)} {l : List Int} (e : H d = some (.dT (numT 0 ls))) (eb : H b = some (.tup (l.map V.int))) (n : l ∉ ls) (hl : ls.length < 1000) : DPut H d (.ref b) (nv ls.length) (upd H d (.dT (numT 0 (ls ++ [l])))) := by
  have := DPut.t (v := nv ls.length) e (b := b) (k := kyT l) (by rw [kyT_V]; exact eb) (by rw [numT_len, sizeLine_eq]; omega)
  rwa [putK_new _ (numT_no 0 ls l n), show numT 0 ls ++ [(kyT l, nv ls.length)] = numT 0 (ls ++ [l]) by rw [numT_snoc, Nat.zero_add]] at this
end Dw
namespace Dw
open PySem PySem.Spec PyProof.Rows L2 SX
end Dw

namespace Dw
/-! a search breadth first, as relations on the lists that stand: the labels found, the rows of their numbers -/
/-- the numbers of a row in the order in which they are found: c are known ahead of it -/
def scanR : Nat → List Nat → Option Nat
  | c, [] => some c
  | c, x :: r => if x < c then scanR c r else if x = c then scanR (c + 1) r else none
def scanT : Nat → List (List Nat) → Option Nat
  | c, [] => some c
  | c, r :: rs => (scanR c r).bind fun d => scanT d rs
theorem scanR_snoc : ∀ (c : Nat) (r : List Nat) (x : Nat), scanR c (r ++ [x]) = (scanR c r).bind fun d => scanR d [x]
  | _, [], _ => rfl
  | c, y :: r, x => by
    rw [List.cons_append]
    unfold scanR
    split
    · exact scanR_snoc c r x
    · split
      · exact scanR_snoc (c + 1) r x
      · rfl
theorem scanT_snoc : ∀ (c : Nat) (rs : List (List Nat)) (r : List Nat), scanT c (rs ++ [r]) = (scanT c rs).bind fun d => scanR d r
  | c, [], r => by
    show (scanR c r).bind (fun d => scanT d []) = scanR c r
    cases scanR c r <;> rfl
  | c, y :: rs, r => by
    rw [List.cons_append]
    unfold scanT
    cases h : scanR c y with
    | none => rfl
    | some d => exact scanT_snoc d rs r
section
variable {L : Type} [DecidableEq L] {g : L → Nat → L} {U : List L}
/-- the place of a label -/
def ixL1 (y : L) : List L → Nat
  | [] => 0
  | x :: f => if x = y then 0 else ixL1 y f + 1
theorem ix_at {y : L} : ∀ {f : List L} {x : Nat}, f.Nodup → f[x]? = some y → ixL1 y f = x
  | z :: f, 0, _, h => by
    cases h
    exact if_pos rfl
  | z :: f, x + 1, nd, h => by
    have h' : f[x]? = some y := h
    have n : z ≠ y := fun e => (List.nodup_cons.mp nd).1 (e ▸ List.mem_of_getElem? h')
    show (if z = y then 0 else ixL1 y f + 1) = x + 1
    rw [if_neg n, ix_at (List.nodup_cons.mp nd).2 h']
def stepL (y : L) (p : List L × List Nat) : List L × List Nat := if y ∈ p.1 then (p.1, p.2 ++ [ixL1 y p.1]) else (p.1 ++ [y], p.2 ++ [p.1.length])
def rowF (h : Nat → L) (f0 : List L) : Nat → List L × List Nat
  | 0 => (f0, [])
  | j + 1 => stepL (h j) (rowF h f0 j)
def bfsN (g : L → Nat → L) (n : Nat) (l0 : L) : Nat → List L × List (List Nat)
  | 0 => ([l0], [])
  | k + 1 => let p := bfsN g n l0 k
    match p.1[k]? with
    | some l => ((rowF (g l) p.1 n).1, p.2 ++ [(rowF (g l) p.1 n).2])
    | none => p
theorem nodup_le {L : Type} : ∀ {a U : List L}, a.Nodup → (∀ y ∈ a, y ∈ U) → a.length ≤ U.length
  | [], _, _, _ => Nat.zero_le _
  | x :: a, U, nd, h => by
    obtain ⟨s, t, rfl⟩ := List.append_of_mem (h x List.mem_cons_self)
    have ih := nodup_le (a := a) (U := s ++ t) (List.nodup_cons.mp nd).2 fun y hy => by
      rcases List.mem_append.mp (h y (List.mem_cons_of_mem _ hy)) with z | z
      · exact List.mem_append_left _ z
      · rcases List.mem_cons.mp z with z | z
        · exact absurd (z ▸ hy) (List.nodup_cons.mp nd).1
        · exact List.mem_append_right _ z
    rw [List.length_append] at ih
    rw [List.length_cons, List.length_append, List.length_cons]
    omega
theorem snoc_nodup {L : Type} {a : List L} {x : L} (nd : a.Nodup) (h : x ∉ a) : (a ++ [x]).Nodup := by
  rw [List.nodup_append]
  exact ⟨nd, List.pairwise_singleton _ _, fun y hy z hz => by rw [List.mem_singleton.mp hz]; exact fun e => h (e ▸ hy)⟩
/-- within a row: the letters below j are done -/
structure RowI (g : L → Nat → L) (U f0 : List L) (l : L) (j : Nat) (f : List L) (row : List Nat) : Prop where
  nd : f.Nodup
  pre : ∃ m, f = f0 ++ m
  len : row.length = j
  at_ : ∀ i x, row[i]? = some x → f[x]? = some (g l i)
  scan : scanR f0.length row = some f.length
  sub : ∀ y ∈ f, y ∈ U
  fn : rowF (g l) f0 j = (f, row)
theorem RowI.zero {f0 : List L} {l : L} (nd : f0.Nodup) (sub : ∀ y ∈ f0, y ∈ U) : RowI g U f0 l 0 f0 [] :=
  ⟨nd, ⟨[], (List.append_nil _).symm⟩, rfl, (fun _ _ h => nomatch h), rfl, sub, rfl⟩
theorem row_at {L : Type} {row : List Nat} {f : List L} {g : Nat → L} {x j : Nat} (hl : row.length = j) (h : ∀ i y, row[i]? = some y → f[y]? = some (g i)) (hx : f[x]? = some (g j)) : ∀ i y, (row ++ [x])[i]? = some y → f[y]? = some (g i) := by
  intro i y e
  by_cases hi : i < row.length
  · rw [List.getElem?_append_left hi] at e
    exact h i y e
  · rw [List.getElem?_append_right (by omega)] at e
    cases hk : i - row.length with
    | zero =>
      rw [hk] at e
      cases e
      rwa [show i = j by omega]
    | succ k =>
      rw [hk] at e
      cases e
theorem RowI.old {f0 f : List L} {l : L} {j x : Nat} {row : List Nat} (h : RowI g U f0 l j f row) (e : f[x]? = some (g l j)) : RowI g U f0 l (j + 1) f (row ++ [x]) := by
  refine ⟨h.nd, h.pre, by rw [List.length_append, h.len]; rfl, row_at h.len h.at_ e, ?_, h.sub, ?_⟩
  · rw [scanR_snoc, h.scan]
    show (if x < f.length then scanR f.length [] else _) = _
    rw [if_pos (List.getElem?_eq_some_iff.mp e).1]
    rfl
  · show stepL (g l j) (rowF (g l) f0 j) = _
    rw [h.fn]
    unfold stepL
    rw [if_pos (List.mem_of_getElem? e), ix_at h.nd e]
theorem RowI.new {f0 f : List L} {l : L} {j : Nat} {row : List Nat} (h : RowI g U f0 l j f row) (n : g l j ∉ f) (u : g l j ∈ U) : RowI g U f0 l (j + 1) (f ++ [g l j]) (row ++ [f.length]) := by
  obtain ⟨m, hm⟩ := h.pre
  refine ⟨snoc_nodup h.nd n, ⟨m ++ [g l j], by rw [hm, List.append_assoc]⟩, by rw [List.length_append, h.len]; rfl, row_at h.len (fun i y e => ?_) ?_, ?_, fun y hy => ?_, by show stepL (g l j) (rowF (g l) f0 j) = _; rw [h.fn]; exact if_neg n⟩
  · have := h.at_ i y e
    rw [List.getElem?_append_left (List.getElem?_eq_some_iff.mp this).1]
    exact this
  · rw [List.getElem?_append_right (Nat.le_refl _), Nat.sub_self]
    rfl
  · rw [scanR_snoc, h.scan]
    show (if f.length < f.length then _ else if f.length = f.length then scanR (f.length + 1) [] else none) = _
    rw [if_neg (Nat.lt_irrefl _), if_pos rfl, List.length_append]
    rfl
  · rcases List.mem_append.mp hy with z | z
    · exact h.sub y z
    · rw [List.mem_singleton.mp z]; exact u
/-- the whole search -/
structure BfsI (g : L → Nat → L) (U : List L) (n : Nat) (l0 : L) (f : List L) (T : List (List Nat)) : Prop where
  nd : f.Nodup
  hd : f[0]? = some l0
  le : T.length ≤ f.length
  rows : ∀ (i : Nat) (r : List Nat), T[i]? = some r → r.length = n ∧ ∃ l, f[i]? = some l ∧ ∀ j x, r[j]? = some x → f[x]? = some (g l j)
  scan : scanT 1 T = some f.length
  order : ∀ k, k < T.length → ∃ c, scanT 1 (T.take k) = some c ∧ k < c
  sub : ∀ y ∈ f, y ∈ U
  fn : bfsN g n l0 T.length = (f, T)
theorem BfsI.zero {n : Nat} {l0 : L} (u : l0 ∈ U) : BfsI g U n l0 [l0] [] :=
  ⟨List.pairwise_singleton _ _, rfl, Nat.zero_le _, (fun _ _ h => nomatch h), rfl, (fun _ h => nomatch h), (fun y hy => by rw [List.mem_singleton.mp hy]; exact u), rfl⟩
theorem BfsI.step {n : Nat} {l0 l : L} {f f' : List L} {T : List (List Nat)} {row : List Nat} (h : BfsI g U n l0 f T) (hl : f[T.length]? = some l) (r : RowI g U f l n f' row) : BfsI g U n l0 f' (T ++ [row]) := by
  obtain ⟨m, hm⟩ := r.pre
  have up : ∀ {i : Nat} {y : L}, f[i]? = some y → f'[i]? = some y := fun {i y} e => by
    rw [hm, List.getElem?_append_left (List.getElem?_eq_some_iff.mp e).1]
    exact e
  have hlt := (List.getElem?_eq_some_iff.mp hl).1
  have hlen : f.length ≤ f'.length := by rw [hm, List.length_append]; omega
  have tl : (T ++ [row]).length = T.length + 1 := by rw [List.length_append]; rfl
  refine ⟨r.nd, up h.hd, by omega, fun i q e => ?_, by rw [scanT_snoc, h.scan]; exact r.scan, fun k hk => ?_, r.sub, ?_⟩
  rotate_right 1
  · rw [tl]
    show (match (bfsN g n l0 T.length).1[T.length]? with | some l => ((rowF (g l) (bfsN g n l0 T.length).1 n).1, (bfsN g n l0 T.length).2 ++ [(rowF (g l) (bfsN g n l0 T.length).1 n).2]) | none => bfsN g n l0 T.length) = _
    rw [h.fn, hl]
    show ((rowF (g l) f n).1, T ++ [(rowF (g l) f n).2]) = _
    rw [r.fn]
  · by_cases hi : i < T.length
    · rw [List.getElem?_append_left hi] at e
      obtain ⟨e1, l1, e2, e3⟩ := h.rows i q e
      exact ⟨e1, l1, up e2, fun j x ex => up (e3 j x ex)⟩
    · rw [List.getElem?_append_right (by omega)] at e
      cases hk : i - T.length with
      | zero =>
        rw [hk] at e
        cases e
        rw [show i = T.length by omega]
        exact ⟨r.len, l, up hl, r.at_⟩
      | succ k =>
        rw [hk] at e
        cases e
  · by_cases hk2 : k < T.length
    · rw [List.take_append_of_le_length (by omega)]
      exact h.order k hk2
    · rw [show k = T.length by omega, List.take_append_of_le_length (Nat.le_refl _), List.take_length]
      exact ⟨_, h.scan, hlt⟩
theorem bfsN_stop {n : Nat} {l0 : L} {k : Nat} (h : (bfsN g n l0 k).1[k]? = none) : ∀ d, bfsN g n l0 (k + d) = bfsN g n l0 k
  | 0 => rfl
  | d + 1 => by
    have ih := bfsN_stop h d
    show (match (bfsN g n l0 (k + d)).1[k + d]? with | some l => _ | none => bfsN g n l0 (k + d)) = _
    rw [ih]
    have hn : (bfsN g n l0 k).1[k + d]? = none := List.getElem?_eq_none (Nat.le_trans (List.getElem?_eq_none_iff.mp h) (Nat.le_add_right _ _))
    rw [hn]
/-- a search that is over is the one alone -/
theorem BfsI.one {U' : List L} {n : Nat} {l0 : L} {f f' : List L} {T T' : List (List Nat)} (h : BfsI g U n l0 f T) (h' : BfsI g U' n l0 f' T') (e : T.length = f.length) (e' : T'.length = f'.length) : f = f' ∧ T = T' := by
  have main : ∀ {U U' : List L} {f f' : List L} {T T' : List (List Nat)}, BfsI g U n l0 f T → BfsI g U' n l0 f' T' → T.length = f.length → T.length ≤ T'.length → (f, T) = (f', T') := fun {U U' f f' T T'} h h' e le => by
    have s := bfsN_stop (g := g) (n := n) (l0 := l0) (k := T.length) (by rw [h.fn]; exact List.getElem?_eq_none (Nat.le_of_eq e.symm)) (T'.length - T.length)
    rw [show T.length + (T'.length - T.length) = T'.length by omega, h'.fn, h.fn] at s
    exact s.symm
  rcases Nat.le_total T.length T'.length with z | z
  · exact Prod.mk.inj (main h h' e z)
  · have := Prod.mk.inj (main h' h e' z)
    exact ⟨this.1.symm, this.2.symm⟩
theorem BfsI.bound {n : Nat} {l0 : L} {f : List L} {T : List (List Nat)} (h : BfsI g U n l0 f T) : f.length ≤ U.length := nodup_le h.nd h.sub
theorem RowI.bound {f0 f : List L} {l : L} {j : Nat} {row : List Nat} (h : RowI g U f0 l j f row) : f.length ≤ U.length := nodup_le h.nd h.sub
theorem RowI.bound1 {f0 f : List L} {l : L} {j : Nat} {row : List Nat} (h : RowI g U f0 l j f row) (n : g l j ∉ f) (u : g l j ∈ U) : f.length < U.length := by
  have := (h.new n u).bound
  rw [List.length_append] at this
  exact this
end
end Dw

namespace Dw
open PySem PySem.Spec PyProof.Rows L2 SX
/-! a search over tuples of ints, as it stands in the heap -/
theorem TupsAt.upd {H : Hp} {ts : List Addr} {T : List (List Int)} {x : Addr} {o o' : HO} (h : TupsAt H ts T) (e : H x = some o) (n : ∀ xs, HO.tup xs ≠ o) : TupsAt (L2.upd H x o') ts T := ⟨h.len, fun i a r h1 h2 => by
  have ea := h.at_ i a r h1 h2
  rw [upd_ne (ne_of ea e (n _))]
  exact ea⟩
theorem TupsAt.get {H : Hp} {ts : List Addr} {T : List (List Int)} {i : Nat} {r : List Int} (h : TupsAt H ts T) (e : T[i]? = some r) : ∃ a, ts[i]? = some a ∧ H a = some (.tup (r.map V.int)) := by
  have hi : i < ts.length := by rw [h.len]; exact (List.getElem?_eq_some_iff.mp e).1
  exact ⟨ts[i], List.getElem?_eq_getElem hi, h.at_ i _ _ (List.getElem?_eq_getElem hi) e⟩
theorem numT_last {ls : List (List Int)} {l : List Int} (h : l ∉ ls) : valV (numT 0 (ls ++ [l])) (kyT l) = some (nv ls.length) := by
  rw [numT_snoc, valV_snoc _ _ _ _ (numT_no 0 ls l h), if_pos rfl, Nat.zero_add]
def natT (T : List (List Nat)) : List (List Int) := T.map fun r => r.map fun (x : Nat) => (x : Int)
structure RS (H H1 : Hp) (g : List Int → Nat → List Int) (U : List (List Int)) (n : Nat) (l0 : List Int) (pF pN pT : Addr) (fs rs : List Addr) (ls : List (List Int)) (T : List (List Nat)) : Prop where
  same : Same H H1
  hF : H1 pF = some (.lst (fs.map V.ref))
  tF : TupsAt H1 fs ls
  hN : H1 pN = some (.dT (numT 0 ls))
  hT : H1 pT = some (.lst (rs.map V.ref))
  rows : RowsAt H1 rs (natT T)
  nr : ∀ y ∈ rs, H y = none ∧ y ≠ pF ∧ y ≠ pN ∧ y ≠ pT
  bfs : BfsI g U n l0 ls T
def FolOk (g : List Int → Nat → List Int) (U : List (List Int)) (n : Nat) (spF : Sp) (H : Hp) : Prop := ∀ H1 b l j Q1 E1, Same H H1 → H1 b = some (.tup (l.map V.int)) → l ∈ U → j < n → (∀ c H2, Same H1 H2 → H2 c = some (.tup ((g l j).map V.int)) → Q1 (.ref c) H2) → spF [.ref b, nv j] H1 Q1 E1
/-- what reached returns -/
structure RchAt (H H' : Hp) (g : List Int → Nat → List Int) (U : List (List Int)) (n : Nat) (l0 : List Int) (p : Addr) (ls : List (List Int)) (T : List (List Nat)) : Prop where
  ex : ∃ f t fs rs, H' p = some (.tup [.ref f, .ref t]) ∧ H' f = some (.lst (fs.map V.ref)) ∧ TupsAt H' fs ls ∧ H' t = some (.lst (rs.map V.ref)) ∧ RowsAt H' rs (natT T) ∧ H f = none ∧ H t = none ∧ t ≠ f ∧ (∀ y ∈ rs, H y = none ∧ y ≠ f ∧ y ≠ t)
  bfs : BfsI g U n l0 ls T
  all : T.length = ls.length
theorem RowsAt.ext {H H' : Hp} {rs : List Addr} {T : List (List Int)} (h : RowsAt H rs T) (e : ExtT H H') : RowsAt H' rs T := ⟨h.len, fun i a r h1 h2 => e.lst (h.at_ i a r h1 h2)⟩
theorem MachAt.ext {C : Addr} {H H' : Hp} {m : Addr} {w : Nat} {T : List (List Int)} {acc : List Bool} (h : MachAt C H m w T acc) (e : ExtT H H') : MachAt C H' m w T acc := by
  obtain ⟨dx, t, b, rs, h1, h2, h3, h4⟩ := h.ex
  exact ⟨dx, t, b, rs, e.keep _ _ h1 (fun _ z => nomatch z), e.lst h2, h3.ext e, e.lst h4⟩
theorem TupsAt.ext {H H' : Hp} {ts : List Addr} {T : List (List Int)} (h : TupsAt H ts T) (e : ExtT H H') : TupsAt H' ts T := ⟨h.len, fun i a r h1 h2 => e.tup (h.at_ i a r h1 h2)⟩
theorem TabN.same {H H' : Hp} {P : Addr} {nm : Nat → Nat → Str} (h : NdefX.TabN H P nm) (s : Same H H') : NdefX.TabN H' P nm := h.ext s
/-- pairs of states -/
def pairsU (n1 n2 : Nat) : List (List Int) := (List.range n1).flatMap fun a => (List.range n2).map fun b => [((a : Nat) : Int), ((b : Nat) : Int)]
theorem mem_pairsU {n1 n2 : Nat} {l : List Int} : l ∈ pairsU n1 n2 ↔ ∃ x y : Nat, x < n1 ∧ y < n2 ∧ l = [(x : Int), (y : Int)] := by
  unfold pairsU
  rw [List.mem_flatMap]
  constructor
  · rintro ⟨x, hx, h⟩
    obtain ⟨y, hy, rfl⟩ := List.mem_map.mp h
    exact ⟨x, y, List.mem_range.mp hx, List.mem_range.mp hy, rfl⟩
  · rintro ⟨x, y, hx, hy, rfl⟩
    exact ⟨x, List.mem_range.mpr hx, List.mem_map.mpr ⟨y, List.mem_range.mpr hy, rfl⟩⟩
theorem flat_const {α : Type} {f : Nat → List α} {k : Nat} (h : ∀ a, (f a).length = k) : ∀ n : Nat, ((List.range n).flatMap f).length = n * k
  | 0 => by rw [Nat.zero_mul]; rfl
  | n + 1 => by rw [List.range_succ, List.flatMap_append, List.length_append, flat_const h n, List.flatMap_singleton, h n, Nat.succ_mul]
theorem pairsU_len (n1 n2 : Nat) : (pairsU n1 n2).length = n1 * n2 := flat_const (fun a => by rw [List.length_map, List.length_range]) n1
end Dw
namespace Dw
open PySem PySem.Spec PyProof.Rows L2 SX
theorem Draw.ext {K : PySem.W.Frag} {H H' : Hp} {p q : Addr} {ns : List Int} (d : Draw K H p q ns) (x : ExtT H H') : Draw K H' p q ns := by
  refine ⟨fun H2 b2 => ?_, ?_⟩
  · by_cases e : q = p
    · subst e
      rcases d.1 (L2.upd H q (.tup [])) But.upd with (h | ⟨_, h⟩) | h
      · rw [upd_same] at h; cases h
      · rw [upd_same] at h; cases h
      · exact .inr h
    · rcases d.1 H (But.refl _ _) with (h | ⟨o, h⟩) | h
      · exact .inl (.inl (b2 _ _ e (x.lst h)))
      · exact .inl (.inr ⟨o, b2 _ _ e (x.keep _ _ h (fun _ z => nomatch z))⟩)
      · exact .inr h
  · obtain ⟨a, v, y, hp, h0, h1⟩ := d.2
    exact ⟨a, v, y, x.lst hp, h0, h1⟩
theorem MachP.ext {C : Addr} {H H' : Hp} {L : List Addr} {m : Addr} {w : Nat} {T : List (List Int)} {acc : List Bool} (h : MachP C H L m w T acc) (e : ExtT H H') : MachP C H' L m w T acc := by
  obtain ⟨dx, t, b, rs, h0, h1, h2, h3, h4⟩ := h
  exact ⟨dx, t, b, rs, h0, e.keep _ _ h1 (fun _ z => nomatch z), e.lst h2, h3.ext e, e.lst h4⟩
theorem TupsAt.but {H H' : Hp} {ts : List Addr} {T : List (List Int)} {p : Addr} {xs : List V} (h : TupsAt H ts T) (b : But p H H') (hp : H p = some (.lst xs)) : TupsAt H' ts T := ⟨h.len, fun i a r h1 h2 => by
  have ea := h.at_ i a r h1 h2
  exact b _ _ (ne_of ea hp (fun z => nomatch z)) ea⟩
end Dw

namespace Dw
open PySem PySem.Spec PyProof.Rows L2 SX
/-! a search over ints, as it stands in the heap -/
/-- the labels, numbered from k on -/
def numI : Nat → List Int → List (L2.Key × V)
  | _, [] => []
  | k, l :: ls => (.inl l, nv k) :: numI (k + 1) ls
theorem numI_len : ∀ (k : Nat) (ls : List Int), (numI k ls).length = ls.length
  | _, [] => rfl
  | k, l :: ls => by
    unfold numI
    rw [List.length_cons, List.length_cons, numI_len (k + 1) ls]
theorem numI_snoc : ∀ (k : Nat) (ls : List Int) (l : Int), numI k (ls ++ [l]) = numI k ls ++ [(.inl l, nv (k + ls.length))]
  | k, [], l => rfl
  | k, x :: ls, l => by
    rw [List.cons_append]
    unfold numI
    rw [numI_snoc (k + 1) ls l, List.cons_append, List.length_cons, show k + 1 + ls.length = k + (ls.length + 1) by omega]
theorem numI_no : ∀ (k : Nat) (ls : List Int) (l : Int), l ∉ ls → valV (numI k ls) (.inl l) = none
  | _, [], _, _ => rfl
  | k, x :: ls, l, h => by
    unfold numI
    rw [valV_neg (fun e => h (by rw [Sum.inl.inj e]; exact List.mem_cons_self))]
    exact numI_no (k + 1) ls l fun z => h (List.mem_cons_of_mem _ z)
theorem numI_at : ∀ (k : Nat) (ls : List Int) (l : Int), l ∈ ls → ∃ i, ls[i]? = some l ∧ valV (numI k ls) (.inl l) = some (nv (k + i))
  | _, [], _, h => nomatch h
  | k, x :: ls, l, h => by
    unfold numI
    by_cases e : x = l
    · exact ⟨0, by rw [e]; rfl, by rw [valV_pos (by rw [e])]; rfl⟩
    · obtain ⟨i, h1, h2⟩ := numI_at (k + 1) ls l ((List.mem_cons.mp h).resolve_left fun z => e z.symm)
      exact ⟨i + 1, h1, by rw [valV_neg (fun z => e (Sum.inl.inj z)), h2, show k + 1 + i = k + (i + 1) by omega]⟩
theorem numI_in {H : Hp} {d : Addr} {ls : List Int} {l : Int} (e : H d = some (.dK (numI 0 ls))) : DGet H d (.int l) (valV (numI 0 ls) (.inl l)) := DGet.k (k := .inl l) e
theorem numI_put {H : Hp} {d : Addr} {ls : List Int} {l : Int} (e : H d = some (.dK (numI 0 ls))) (n : l ∉ ls) (hl : ls.length < 1000) : DPut H d (.int l) (nv ls.length) (upd H d (.dK (numI 0 (ls ++ [l])))) := by
  have := DPut.k (v := nv ls.length) (k := .inl l) e (by rw [numI_len, sizeLine_eq]; omega)
  rwa [putK_new _ (numI_no 0 ls l n), show numI 0 ls ++ [(.inl l, nv ls.length)] = numI 0 (ls ++ [l]) by rw [numI_snoc, Nat.zero_add]] at this
theorem numI_last {ls : List Int} {l : Int} (h : l ∉ ls) : valV (numI 0 (ls ++ [l])) (.inl l) = some (nv ls.length) := by
  rw [numI_snoc, valV_snoc _ _ _ _ (numI_no 0 ls l h), if_pos rfl, Nat.zero_add]
structure RSI (H H1 : Hp) (g : Int → Nat → Int) (U : List Int) (n : Nat) (l0 : Int) (pF pN pT : Addr) (rs : List Addr) (ls : List Int) (T : List (List Nat)) : Prop where
  same : Same H H1
  hF : H1 pF = some (.lst (ls.map V.int))
  hN : H1 pN = some (.dK (numI 0 ls))
  hT : H1 pT = some (.lst (rs.map V.ref))
  rows : RowsAt H1 rs (natT T)
  nr : ∀ y ∈ rs, H y = none ∧ y ≠ pF ∧ y ≠ pN ∧ y ≠ pT
  bfs : BfsI g U n l0 ls T
def FolOkI (g : Int → Nat → Int) (U : List Int) (n : Nat) (spF : Sp) (H : Hp) : Prop := ∀ H1 l j Q1 E1, Same H H1 → l ∈ U → j < n → (∀ H2, Same H1 H2 → Q1 (.int (g l j)) H2) → spF [.int l, nv j] H1 Q1 E1
/-- what reached returns -/
structure RchAtI (H H' : Hp) (g : Int → Nat → Int) (U : List Int) (n : Nat) (l0 : Int) (p : Addr) (ls : List Int) (T : List (List Nat)) : Prop where
  ex : ∃ f t rs, H' p = some (.tup [.ref f, .ref t]) ∧ H' f = some (.lst (ls.map V.int)) ∧ H' t = some (.lst (rs.map V.ref)) ∧ RowsAt H' rs (natT T) ∧ H f = none ∧ H t = none ∧ t ≠ f ∧ (∀ y ∈ rs, H y = none ∧ y ≠ f ∧ y ≠ t)
  bfs : BfsI g U n l0 ls T
  all : T.length = ls.length
/-- the ints below n -/
def intsU (n : Nat) : List Int := (List.range n).map fun x => ((x : Nat) : Int)
theorem mem_intsU {n : Nat} {l : Int} : l ∈ intsU n ↔ ∃ x : Nat, x < n ∧ l = (x : Int) := by
  unfold intsU
  rw [List.mem_map]
  constructor
  · rintro ⟨x, hx, rfl⟩; exact ⟨x, List.mem_range.mp hx, rfl⟩
  · rintro ⟨x, hx, rfl⟩; exact ⟨x, List.mem_range.mpr hx, rfl⟩
theorem intsU_len (n : Nat) : (intsU n).length = n := by unfold intsU; rw [List.length_map, List.length_range]
/-! a list or a tuple, walked -/
def AnyS (K : PySem.W.Frag) (H : Hp) (a : Addr) (xs : List V) : Prop := SqL K H a xs ∨ SqT K H a xs
theorem AnyS.same {K : PySem.W.Frag} {H H' : Hp} {a : Addr} {xs : List V} (h : AnyS K H a xs) (s : Same H H') : AnyS K H' a xs := h.imp (fun h => s.seq h) (sameT s)
def iAny (K : PySem.W.Frag) (tl : TE) : TI := fun σ H R => tl σ H fun x H1 => ∃ a, x = .ref a ∧ (((∃ xs, SqL K H1 a xs) ∧ R (Itl K a) H1) ∨ ((∃ xs, SqT K H1 a xs) ∧ R (Itt K a) H1))
theorem piA {X : Cx} (K : PySem.W.Frag) {tg l : Expr} {tl : TE} (hl : PE X l tl) (h : X.K = K := by rfl) : PI X tg l (iAny K tl) := by
  subst h
  refine ⟨fun pins s σ H R I h => ?_⟩
  refine thn (hl.run pins s σ H _ I h) fun v s1 ⟨x, H1, I1, r1, q1⟩ => ?_
  obtain ⟨a, e, q⟩ := q1
  subst e
  cases r1
  rcases q with ⟨⟨xs, hq⟩, q⟩ | ⟨⟨xs, hq⟩, q⟩
  · obtain ⟨its, rv, p, hz⟩ := I1.list hq
    refine wpAny_pyIter_list p.isList ?_
    refine ⟨s1.heap.objs.size, [s1.heap.objs.size], _, _, H1, rfl, I1.kept (t' := s1.toks) fun b o e => Heap.get?_push_of_some _ e, turn_list a _, ⟨_, Heap.get?_push_size _ rfl, rfl, rfl⟩, fun b hb => ?_, q⟩
    have e : b = s1.heap.objs.size := by simpa using hb
    subst e
    exact I1.fpOk (Nat.le_refl _) (I1.hok.fresh (Nat.le_refl _))
  · obtain ⟨its, rv, p, hz⟩ := I1.tuple hq
    refine wpAny_pyIter_tuple (show s1.heap.IsTuple a its.toArray from p) ?_
    refine ⟨s1.heap.objs.size, [s1.heap.objs.size], _, _, H1, rfl, I1.kept (t' := s1.toks) fun b o e => Heap.get?_push_of_some _ e, turn_tuple a _, ⟨_, Heap.get?_push_size _ rfl, rfl, rfl⟩, fun b hb => ?_, q⟩
    have e : b = s1.heap.objs.size := by simpa using hb
    subst e
    exact I1.fpOk (Nat.le_refl _) (I1.hok.fresh (Nat.le_refl _))
/-- a comprehension over either, without a test: a new list of what each turn gives -/
theorem lc_any {K : PySem.W.Frag} {tl : TE} {a : Addr} {xs : List V} {g : TG} {te : TE} {vs : List Nat} {σ : L2.St} {H1 : Hp} {Qd : Addr → Hp → Prop} (ha : AnyS K H1 a xs) (htl : ∀ Q : VK, Q (.ref a) H1 → tl σ H1 Q) (out : Nat → V) (hn : xs.length ≤ 10000)
    (hs : ∀ D i x H (N : VK), H1 D = none → i < xs.length → Same H1 H → xs[i]? = some x → (∀ H2, Same H H2 → N (out i) H2) → g x (wipe σ vs) H fun σ2 H2 => wipe σ2 vs = wipe σ vs ∧ te σ2 H2 N)
    (hd : ∀ D H, H1 D = none → Same H1 H → H D = some (.lst ((List.range xs.length).map out)) → Qd D H) :
    iAny K tl σ H1 fun J H2 => ∀ D, H2 D = none → LcJ J g tYes te vs D σ H2 (Qd D) := by
  refine htl _ ⟨a, rfl, ?_⟩
  rcases ha with h | h
  · exact .inl ⟨⟨_, h⟩, fun D hD => lc_map walk_list out hn hD (fun H s => s.seq h) (fun i x H H' N hi s ⟨e, z⟩ ok => by subst e; exact hs D i x _ N hD hi s z ok) (hd D · hD)⟩
  · exact .inr ⟨⟨_, h⟩, fun D hD => lc_map walk_tup out hn hD (fun H s => sameT s h) (fun i x H H' N hi s ⟨e, z⟩ ok => by subst e; exact hs D i x _ N hD hi s z ok) (hd D · hD)⟩
theorem getD_at {a : List Bool} {x : Nat} (h : x < a.length) : a[x]? = some (a.getD x false) := by
  rw [List.getD_eq_getElem?_getD, List.getElem?_eq_getElem h]
  rfl
theorem natT_at {T : List (List Nat)} {i : Nat} {r : List Nat} (h : T[i]? = some r) : (natT T)[i]? = some (r.map fun (x : Nat) => (x : Int)) := by
  unfold natT
  rw [List.getElem?_map, h]
  rfl
theorem natT_nxt {T : List (List Nat)} {i j x : Nat} {r : List Nat} (h : T[i]? = some r) (hx : r[j]? = some x) : nxt (natT T) i j = x := by
  have e : (natT T).getD i [] = r.map fun (x : Nat) => (x : Int) := by
    rw [List.getD_eq_getElem?_getD, natT_at h]
    rfl
  unfold nxt
  rw [e, List.getD_eq_getElem?_getD, List.getElem?_map, hx]
  rfl
/-- a search that is over makes a machine -/
theorem mok_bfs {L : Type} [DecidableEq L] {g : L → Nat → L} {U : List L} {w : Nat} {l0 : L} {ls : List L} {T : List (List Nat)} {f : L → Bool} (hw : w ≤ 6) (bf : BfsI g U (2 ^ w) l0 ls T) (al : T.length = ls.length) (h4 : ls.length ≤ 400) (hf : ∀ l ∈ U, f l = f (g l 0)) : MOk w (natT T) (ls.map f) := by
  have h0 := (List.getElem?_eq_some_iff.mp bf.hd).1
  have ln : (natT T).length = T.length := by unfold natT; rw [List.length_map]
  refine ⟨hw, by omega, by omega, ?_, by rw [List.length_map]; omega, fun i hi => ?_⟩
  · unfold goodT
    rw [List.all_eq_true]
    intro r' hr'
    unfold natT at hr'
    obtain ⟨r, hr, rfl⟩ := List.mem_map.mp hr'
    obtain ⟨i, hi⟩ := List.mem_iff_getElem?.mp hr
    obtain ⟨h1, l, h2, h3⟩ := bf.rows i r hi
    unfold goodRow
    rw [Bool.and_eq_true, List.all_eq_true]
    refine ⟨decide_eq_true (by rw [List.length_map]; exact h1), fun x hx => ?_⟩
    obtain ⟨y, hy, rfl⟩ := List.mem_map.mp hx
    obtain ⟨j, hj⟩ := List.mem_iff_getElem?.mp hy
    have := (List.getElem?_eq_some_iff.mp (h3 j y hj)).1
    rw [Bool.and_eq_true]
    exact ⟨decide_eq_true (by omega), decide_eq_true (by omega)⟩
  · have hiT : T[i]? = some T[i] := List.getElem?_eq_getElem (by omega)
    obtain ⟨h1, l, h2, h3⟩ := bf.rows i _ hiT
    have hp : 0 < (T[i]'(by omega)).length := by rw [h1]; exact Nat.two_pow_pos w
    have hx0 : (T[i]'(by omega))[0]? = some (T[i]'(by omega))[0] := List.getElem?_eq_getElem hp
    rw [natT_nxt hiT hx0, List.getElem?_map, List.getElem?_map, h2, h3 0 _ hx0]
    show some (f l) = some (f (g l 0))
    rw [hf l (bf.sub l (List.mem_of_getElem? h2))]
/-- the row of a state of such a search -/
theorem bfs_row {L : Type} [DecidableEq L] {g : L → Nat → L} {U : List L} {n : Nat} {l0 : L} {ls : List L} {T : List (List Nat)} (bf : BfsI g U n l0 ls T) (al : T.length = ls.length) {i j : Nat} {l : L} (hl : ls[i]? = some l) (hj : j < n) : ∃ r x, T[i]? = some r ∧ r.length = n ∧ r[j]? = some x ∧ ls[x]? = some (g l j) ∧ nxt (natT T) i j = x := by
  have hi := (List.getElem?_eq_some_iff.mp hl).1
  have hiT : T[i]? = some (T[i]'(by omega)) := List.getElem?_eq_getElem (by omega)
  obtain ⟨h1, l', h2, h3⟩ := bf.rows i _ hiT
  rw [hl] at h2
  cases h2
  have hx : (T[i]'(by omega))[j]? = some ((T[i]'(by omega))[j]'(by omega)) := List.getElem?_eq_getElem (by omega)
  exact ⟨_, _, hiT, h1, hx, h3 j _ hx, natT_nxt hiT hx⟩
/-- the state behind a word has the label behind it -/
theorem bfs_run {L : Type} [DecidableEq L] {g : L → Nat → L} {U : List L} {n : Nat} {l0 : L} {ls : List L} {T : List (List Nat)} (bf : BfsI g U n l0 ls T) (al : T.length = ls.length) : ∀ (word : List Nat), (∀ l ∈ word, l < n) → ∀ (s : Nat) (l : L), ls[s]? = some l → ls[runT (natT T) s word]? = some (word.foldl g l)
  | [], _, _, _, h => h
  | x :: r, hw, s, l, h => by
    obtain ⟨_, y, _, _, _, h2, e⟩ := bfs_row bf al h (hw x List.mem_cons_self)
    show ls[runT (natT T) (nxt (natT T) s x) r]? = some (r.foldl g (g l x))
    rw [e]
    exact bfs_run bf al r (fun m hm => hw m (List.mem_cons_of_mem _ hm)) _ _ h2
theorem nc_K {CX : CXT} {P : Program} {w : World} {K : PySem.W.Frag} {mg : Str → Option Value} {base : Heap} {N : List Str} {F : NdefX.NF} {f : Addr} {A : Around} {outer : List Env} {s : Shared} {H : Hp} {E : XK} : (NdefX.ncx CX P w K mg base N F f A outer s H E).K = K := rfl
theorem nc_w {CX : CXT} {P : Program} {w : World} {K : PySem.W.Frag} {mg : Str → Option Value} {base : Heap} {N : List Str} {F : NdefX.NF} {f : Addr} {A : Around} {outer : List Env} {s : Shared} {H : Hp} {E : XK} : (NdefX.ncx CX P w K mg base N F f A outer s H E).w = w := rfl
theorem nc_prog {CX : CXT} {P : Program} {w : World} {K : PySem.W.Frag} {mg : Str → Option Value} {base : Heap} {N : List Str} {F : NdefX.NF} {f : Addr} {A : Around} {outer : List Env} {s : Shared} {H : Hp} {E : XK} : (NdefX.ncx CX P w K mg base N F f A outer s H E).prog = P := rfl
theorem same2 {H4 : Hp} {x dx : Addr} {o1 o2 : HO} (hx : H4 x = none) (hdx : H4 dx = none) : Same H4 (upd (upd H4 dx o1) x o2) := Dw.Same.new (same_upd hdx) hx
theorem same_mk {H H4 H' : Hp} {x dx : Addr} {o1 o2 : HO} (s : Same H H4) (hx : H4 x = none) (hdx : H4 dx = none) (b : But x (upd (upd H4 dx o1) x o2) H') : Same H H' := fun y o e => b y o (ne_of_none (s _ _ e) hx) (same2 hx hdx y o (s _ _ e))
theorem slL {X : Cx} (K : PySem.W.Frag) (h : X.K = K := by rfl) : SlR X (rSlL K) := h ▸ sl_list
end Dw

namespace Dw
open PySem PySem.Spec PyProof.Rows L2 SX
theorem Pool.upd {H H' : Hp} {p q t : Addr} {ns : List Int} {o : HO} (d : Pool H p q ns) (b : But p H H') (d' : Pool H' p q ns) (ht : H t = none) : Pool (L2.upd H' t o) p q ns := d'.set (d.ne ht) (d.neq ht)
theorem Pool.free {H H' : Hp} {p q t : Addr} {ns : List Int} (d : Pool H p q ns) (b : But p H H') (d' : Pool H' p q ns) (ht : H' t = none) : H t = none := b.free d' ht
/-- the settled marks of drawn bits -/
def ringM (f : Nat → Nat) (n : Nat) (bits : List Bool) (acc : List Bool) : Prop := acc.length = n ∧ ∀ s, s < n → ∃ m, IsMin m (ringL f n s) ∧ acc[s]? = some (bits.getD m false)
theorem ringM_set {f : Nat → Nat} {n : Nat} {bits acc : List Bool} (h : ringM f n bits acc) (hf : ∀ x, x < n → f x < n) {i : Nat} (hi : i < n) : acc[i]? = acc[f i]? := by
  obtain ⟨m, h1, h2⟩ := h.2 i hi
  obtain ⟨k, h3, h4⟩ := h.2 (f i) (hf i hi)
  rw [h2, h4, h1.eq h3 fun x => ring_same hf hi]
/-! words that are accepted, counted -/
def cw (T : List (List Int)) (acc : List Bool) : Nat → Nat → Int
  | 0, s => if acc.getD s false = true then 1 else 0
  | d + 1, s => ((T.getD s []).map fun x => cw T acc d x.toNat).sum
def rowN (T : List (List Int)) (s : Nat) : List Nat := (T.getD s []).map Int.toNat
def stL (T : List (List Int)) : Nat → List Nat
  | 0 => [0]
  | d + 1 => (stL T d).flatMap (rowN T)
theorem sum_append (a b : List Int) : (a ++ b).sum = a.sum + b.sum := by
  induction a with
  | nil => simp
  | cons x r ih => simp [ih, Int.add_assoc]
theorem cw_rows (T : List (List Int)) (acc : List Bool) (d : Nat) : ∀ L : List Nat, (L.map (cw T acc (d + 1))).sum = ((L.flatMap (rowN T)).map (cw T acc d)).sum
  | [] => rfl
  | s :: L => by
    rw [List.map_cons, List.sum_cons, cw_rows T acc d L, List.flatMap_cons, List.map_append, sum_append]
    congr 1
    unfold rowN
    rw [List.map_map]
    rfl
theorem cw_st (T : List (List Int)) (acc : List Bool) : ∀ k d, ((stL T k).map (cw T acc d)).sum = cw T acc (k + d) 0
  | 0, d => by
    rw [Nat.zero_add]
    show cw T acc d 0 + 0 = _
    rw [Int.add_zero]
  | k + 1, d => by
    show (((stL T k).flatMap (rowN T)).map (cw T acc d)).sum = _
    rw [← cw_rows, cw_st T acc k (d + 1), show k + (d + 1) = k + 1 + d by omega]
theorem cw_count (T : List (List Int)) (acc : List Bool) : ∀ L : List Nat, (L.map (cw T acc 0)).sum = ((L.filter fun s => acc.getD s false).length : Int)
  | [] => rfl
  | s :: L => by
    rw [List.map_cons, List.sum_cons, cw_count T acc L]
    show (if acc.getD s false = true then (1 : Int) else 0) + _ = _
    by_cases h : acc.getD s false = true
    · rw [if_pos h, List.filter_cons, if_pos h, List.length_cons]; omega
    · rw [if_neg h, List.filter_cons, if_neg h]; omega
theorem st_lt {w : Nat} {T : List (List Int)} {acc : List Bool} (k : MOk w T acc) : ∀ d, ∀ s ∈ stL T d, s < T.length
  | 0, s, h => by rw [List.mem_singleton.mp h]; exact k.pos
  | d + 1, s, h => by
    obtain ⟨x, hx, hs⟩ := List.mem_flatMap.mp h
    obtain ⟨r, er, hrl, hrx⟩ := goodT_row k.good (st_lt k d x hx)
    unfold rowN at hs
    rw [List.getD_eq_getElem?_getD, er] at hs
    obtain ⟨y, hy, rfl⟩ := List.mem_map.mp hs
    have := hrx y hy
    omega
theorem st_len {w : Nat} {T : List (List Int)} {acc : List Bool} (k : MOk w T acc) : ∀ d, (stL T d).length = (2 ^ w) ^ d
  | 0 => rfl
  | d + 1 => by
    have : ∀ L : List Nat, (∀ s ∈ L, s < T.length) → (L.flatMap (rowN T)).length = L.length * 2 ^ w := fun L => by
      induction L with
      | nil => intro _; simp
      | cons s L ih =>
        intro h
        obtain ⟨r, er, hrl, _⟩ := goodT_row k.good (h s List.mem_cons_self)
        rw [List.flatMap_cons, List.length_append, ih fun x hx => h x (List.mem_cons_of_mem _ hx), List.length_cons, Nat.succ_mul]
        unfold rowN
        rw [List.length_map, List.getD_eq_getElem?_getD, er]
        show r.length + _ = _
        omega
    show ((stL T d).flatMap (rowN T)).length = _
    rw [this _ (st_lt k d), st_len k d, Nat.pow_succ]
end Dw

namespace Dw
open PySem PySem.Spec PyProof.Rows L2 SX
section
variable {w : Nat} {T : List (List Int)} {acc : List Bool}
theorem rowN_at (k : MOk w T acc) {s l : Nat} (hs : s < T.length) (hl : l < 2 ^ w) : (rowN T s)[l]? = some (nxt T s l) := by
  obtain ⟨r, er, e2, _⟩ := goodT_at k.good hs hl
  unfold rowN
  rw [List.getD_eq_getElem?_getD, er, List.getElem?_map, Option.getD_some, e2]
  show some (Int.toNat ((nxt T s l : Nat) : Int)) = _
  rw [Int.toNat_natCast]
theorem rowN_len (k : MOk w T acc) {s : Nat} (hs : s < T.length) : (rowN T s).length = 2 ^ w := by
  obtain ⟨r, er, hrl, _⟩ := goodT_row k.good hs
  unfold rowN
  rw [List.length_map, List.getD_eq_getElem?_getD, er]
  exact hrl
theorem mem_rowN (k : MOk w T acc) {s x : Nat} (hs : s < T.length) : x ∈ rowN T s ↔ ∃ l, l < 2 ^ w ∧ nxt T s l = x := by
  constructor
  · intro h
    obtain ⟨l, hl, e⟩ := List.mem_iff_getElem.mp h
    have hl2 := hl
    rw [rowN_len k hs] at hl2
    have h2 := rowN_at k hs hl2
    rw [List.getElem?_eq_getElem hl, e] at h2
    exact ⟨l, hl2, (Option.some.inj h2).symm⟩
  · rintro ⟨l, hl, rfl⟩
    exact List.mem_of_getElem? (rowN_at k hs hl)
theorem mem_stL (k : MOk w T acc) : ∀ (d s : Nat), s ∈ stL T d ↔ ∃ ls : List Nat, ls.length = d ∧ (∀ l ∈ ls, l < 2 ^ w) ∧ runT T 0 ls = s
  | 0, s => by
    constructor
    · intro h
      rw [List.mem_singleton.mp h]
      exact ⟨[], rfl, (fun _ h => nomatch h), rfl⟩
    · rintro ⟨ls, h1, _, h3⟩
      rw [List.length_eq_zero_iff.mp h1] at h3
      exact List.mem_singleton.mpr h3.symm
  | d + 1, s => by
    constructor
    · intro h
      obtain ⟨x, hx, hs⟩ := List.mem_flatMap.mp h
      obtain ⟨l, hl, e⟩ := (mem_rowN k (st_lt k d x hx)).mp hs
      obtain ⟨ls, h1, h2, h3⟩ := (mem_stL k d x).mp hx
      refine ⟨ls ++ [l], by rw [List.length_append, h1]; rfl, fun y hy => ?_, by rw [runT_snoc, h3, e]⟩
      rcases List.mem_append.mp hy with hy | hy
      · exact h2 y hy
      · rw [List.mem_singleton.mp hy]; exact hl
    · rintro ⟨ls, h1, h2, h3⟩
      obtain ⟨a, l, rfl⟩ := snoc_of (l := ls) (fun e => by rw [e] at h1; cases h1)
      rw [runT_snoc] at h3
      have ha : ∀ y ∈ a, y < 2 ^ w := fun y hy => h2 y (List.mem_append_left _ hy)
      have hx : runT T 0 a ∈ stL T d := (mem_stL k d _).mpr ⟨a, by rw [List.length_append] at h1; exact Nat.succ.inj h1, ha, rfl⟩
      exact List.mem_flatMap.mpr ⟨_, hx, (mem_rowN k (st_lt k d _ hx)).mpr ⟨l, h2 l (List.mem_append_right _ List.mem_cons_self), h3⟩⟩
/-- a letter that is not 0 leads on to an accepting state -/
def endB (T : List (List Int)) (acc : List Bool) (s : Nat) : Bool := ((rowN T s).drop 1).any fun x => acc.getD x false
def endC (T : List (List Int)) (acc : List Bool) (s : Nat) : Nat := (((rowN T s).drop 1).filter fun x => acc.getD x false).length
theorem cw_one (k : MOk w T acc) {s : Nat} (hs : s < T.length) : cw T acc 1 s = cw T acc 0 s + (endC T acc s : Nat) := by
  have e : cw T acc 1 s = ((rowN T s).map (cw T acc 0)).sum := by
    show ((T.getD s []).map fun x => cw T acc 0 x.toNat).sum = _
    unfold rowN
    rw [List.map_map]
    rfl
  have h0 := rowN_at k hs (Nat.two_pow_pos w)
  have hsp : rowN T s = nxt T s 0 :: (rowN T s).drop 1 := by
    cases hr : rowN T s with
    | nil => rw [hr] at h0; cases h0
    | cons x r => rw [hr] at h0; cases h0; rfl
  rw [e, cw_count]
  unfold endC
  rw [hsp]
  show ((List.filter _ (nxt T s 0 :: ((rowN T s).drop 1))).length : Int) = _
  have hset : acc.getD (nxt T s 0) false = acc.getD s false := by
    rw [List.getD_eq_getElem?_getD, List.getD_eq_getElem?_getD, k.set s hs]
  rw [List.drop_succ_cons, List.drop_zero, List.filter_cons, hset]
  show _ = (if acc.getD s false = true then (1 : Int) else 0) + _
  by_cases h : acc.getD s false = true
  · rw [if_pos h, if_pos h, List.length_cons]; omega
  · rw [if_neg h, if_neg h]; omega
theorem endB_iff {s : Nat} : endB T acc s = true ↔ 0 < endC T acc s := by
  unfold endB endC
  rw [List.any_eq_true, List.length_pos_iff_exists_mem]
  constructor
  · rintro ⟨x, hx, h⟩; exact ⟨x, List.mem_filter.mpr ⟨hx, h⟩⟩
  · rintro ⟨x, hx⟩; exact ⟨x, (List.mem_filter.mp hx).1, (List.mem_filter.mp hx).2⟩
def endE (T : List (List Int)) (acc : List Bool) (d : Nat) : Bool := (stL T d).any (endB T acc)
theorem cw_step (k : MOk w T acc) (d : Nat) : ∃ c : Nat, cw T acc (d + 1) 0 = cw T acc d 0 + c ∧ (endE T acc d = true ↔ 0 < c) := by
  have h1 := cw_st T acc d 1
  have h0 := cw_st T acc d 0
  rw [Nat.add_zero] at h0
  have gen : ∀ L : List Nat, (∀ s ∈ L, s < T.length) → ∃ c : Nat, (L.map (cw T acc 1)).sum = (L.map (cw T acc 0)).sum + c ∧ (L.any (endB T acc) = true ↔ 0 < c) := fun L => by
    induction L with
    | nil => intro _; exact ⟨0, rfl, by simp⟩
    | cons s L ih =>
      intro hL
      obtain ⟨c, e1, e2⟩ := ih fun x hx => hL x (List.mem_cons_of_mem _ hx)
      refine ⟨endC T acc s + c, ?_, ?_⟩
      · rw [List.map_cons, List.sum_cons, List.map_cons, List.sum_cons, cw_one k (hL s List.mem_cons_self), e1]
        omega
      · rw [List.any_cons, Bool.or_eq_true, endB_iff, e2]
        omega
  obtain ⟨c, e1, e2⟩ := gen _ (st_lt k d)
  exact ⟨c, by rw [← h1, ← h0]; exact e1, e2⟩
theorem cw_eq (k : MOk w T acc) (a : Nat) : ∀ m, cw T acc a 0 ≤ cw T acc (a + m) 0 ∧ (cw T acc a 0 = cw T acc (a + m) 0 ↔ ∀ i, i < m → endE T acc (a + i) = false)
  | 0 => ⟨Int.le_refl _, ⟨fun _ i h => absurd h (Nat.not_lt_zero i), fun _ => rfl⟩⟩
  | m + 1 => by
    obtain ⟨h1, h2⟩ := cw_eq k a m
    obtain ⟨c, e1, e2⟩ := cw_step k (a + m)
    have e3 : cw T acc (a + (m + 1)) 0 = cw T acc (a + m) 0 + c := e1
    rw [e3]
    refine ⟨by omega, ?_⟩
    constructor
    · intro h i hi
      by_cases him : i < m
      · exact h2.mp (by omega) i him
      · have : i = m := by omega
        subst this
        cases he : endE T acc (a + i) with
        | false => rfl
        | true => have := e2.mp he; omega
    · intro h
      have e4 := h2.mpr fun i hi => h i (by omega)
      have e5 : c = 0 := by
        rcases Nat.eq_zero_or_pos c with z | z
        · exact z
        · have := e2.mpr z
          rw [h m (by omega)] at this
          cases this
      omega
/-- a long tuple has a shorter one beside it -/
theorem pump (k : MOk w T acc) : ∀ d, T.length - 1 ≤ d → endE T acc d = true → ∃ i, i < T.length ∧ endE T acc (T.length - 1 + i) = true := by
  intro d
  induction d using Nat.strongRecOn with
  | ind d ih =>
    intro hd he
    have hp := k.pos
    by_cases hs : d ≤ 2 * T.length - 2
    · exact ⟨d - (T.length - 1), by omega, by rw [show T.length - 1 + (d - (T.length - 1)) = d by omega]; exact he⟩
    · obtain ⟨s, hsm, hse⟩ := List.any_eq_true.mp he
      obtain ⟨ls, h1, h2, h3⟩ := (mem_stL k d s).mp hsm
      obtain ⟨i, j, hij, hj, e⟩ := pigeon T.length (fun i => runT T 0 (ls.take i)) fun i _ => runT_lt k.good _ _ (fun x hx => h2 x (List.mem_of_mem_take hx)) hp
      have e : runT T 0 (ls.take i) = runT T 0 (ls.take j) := e
      have h4 : runT T 0 (ls.take i ++ ls.drop j) = s := by rw [runT_app, e, ← runT_app, List.take_append_drop, h3]
      have hl : (ls.take i ++ ls.drop j).length = d - (j - i) := by rw [List.length_append, List.length_take, List.length_drop]; omega
      refine ih (d - (j - i)) (by omega) (by omega) (List.any_eq_true.mpr ⟨s, (mem_stL k _ s).mpr ⟨_, hl, fun x hx => ?_, h4⟩, hse⟩)
      rcases List.mem_append.mp hx with hx | hx
      · exact h2 x (List.mem_of_mem_take hx)
      · exact h2 x (List.mem_of_mem_drop hx)
/-- finitely many, as it is found -/
def finB (T : List (List Int)) (acc : List Bool) : Bool := (List.range T.length).all fun i => !endE T acc (T.length - 1 + i)
theorem finB_iff (k : MOk w T acc) : finB T acc = true ↔ cw T acc (T.length - 1) 0 = cw T acc (3 * T.length) 0 := by
  have hp := k.pos
  have h := (cw_eq k (T.length - 1) (2 * T.length + 1)).2
  rw [show T.length - 1 + (2 * T.length + 1) = 3 * T.length by omega] at h
  rw [h]
  unfold finB
  rw [List.all_eq_true]
  constructor
  · intro h1 i hi
    cases he : endE T acc (T.length - 1 + i) with
    | false => rfl
    | true =>
      obtain ⟨q, hq, e⟩ := pump k _ (by omega) he
      have := h1 q (List.mem_range.mpr hq)
      rw [e] at this
      cases this
  · intro h1 i hi
    have := List.mem_range.mp hi
    rw [h1 i (by omega)]
    rfl
/-- the marks of the states behind so many letters -/
def mkL (T : List (List Int)) (d : Nat) : List Bool := (List.range T.length).map fun s => decide (s ∈ stL T d)
def mbL (T : List (List Int)) (ms : List Bool) : List Bool := (List.range T.length).map fun x => (List.range T.length).any fun s => ms.getD s false && decide (x ∈ rowN T s)
theorem mkL_at {d s : Nat} (hs : s < T.length) : (mkL T d)[s]? = some (decide (s ∈ stL T d)) := by
  unfold mkL
  rw [List.getElem?_map, List.getElem?_range hs]
  rfl
theorem mkL_len (d : Nat) : (mkL T d).length = T.length := by unfold mkL; rw [List.length_map, List.length_range]
theorem mbL_len (ms : List Bool) : (mbL T ms).length = T.length := by unfold mbL; rw [List.length_map, List.length_range]
theorem mbL_mkL (k : MOk w T acc) (d : Nat) : mbL T (mkL T d) = mkL T (d + 1) := by
  unfold mbL
  show _ = (List.range T.length).map fun s => decide (s ∈ stL T (d + 1))
  refine List.map_congr_left fun x hx => ?_
  have e : ((List.range T.length).any fun s => (mkL T d).getD s false && decide (x ∈ rowN T s)) = true ↔ x ∈ stL T (d + 1) := by
    rw [List.any_eq_true]
    show _ ↔ x ∈ (stL T d).flatMap (rowN T)
    rw [List.mem_flatMap]
    constructor
    · rintro ⟨s, hs, h⟩
      rw [Bool.and_eq_true, List.getD_eq_getElem?_getD, mkL_at (List.mem_range.mp hs)] at h
      exact ⟨s, of_decide_eq_true h.1, of_decide_eq_true h.2⟩
    · rintro ⟨s, hs, h⟩
      have hsT := st_lt k d s hs
      refine ⟨s, List.mem_range.mpr hsT, ?_⟩
      rw [Bool.and_eq_true, List.getD_eq_getElem?_getD, mkL_at hsT]
      exact ⟨decide_eq_true hs, decide_eq_true h⟩
  by_cases hx2 : x ∈ stL T (d + 1)
  · rw [decide_eq_true hx2]; exact e.mpr hx2
  · rw [decide_eq_false hx2]
    cases hb : ((List.range T.length).any fun s => (mkL T d).getD s false && decide (x ∈ rowN T s)) with
    | false => rfl
    | true => exact absurd (e.mp hb) hx2
theorem mkL_zero (k : MOk w T acc) : mkL T 0 = (List.range T.length).map fun s => decide (s = 0) := by
  unfold mkL
  refine List.map_congr_left fun s _ => ?_
  have : (s ∈ stL T 0) ↔ s = 0 := List.mem_singleton
  by_cases h : s = 0
  · rw [decide_eq_true h, decide_eq_true (this.mpr h)]
  · rw [decide_eq_false h, decide_eq_false (fun z => h (this.mp z))]
theorem endE_any (k : MOk w T acc) (d : Nat) : ((List.range T.length).any fun s => (mkL T d).getD s false && endB T acc s) = endE T acc d := by
  have e : ((List.range T.length).any fun s => (mkL T d).getD s false && endB T acc s) = true ↔ endE T acc d = true := by
    unfold endE
    rw [List.any_eq_true, List.any_eq_true]
    constructor
    · rintro ⟨s, hs, h⟩
      rw [Bool.and_eq_true, List.getD_eq_getElem?_getD, mkL_at (List.mem_range.mp hs)] at h
      exact ⟨s, of_decide_eq_true h.1, h.2⟩
    · rintro ⟨s, hs, h⟩
      have hsT := st_lt k d s hs
      refine ⟨s, List.mem_range.mpr hsT, ?_⟩
      rw [Bool.and_eq_true, List.getD_eq_getElem?_getD, mkL_at hsT]
      exact ⟨decide_eq_true hs, h⟩
  cases h1 : endE T acc d with
  | true => exact e.mpr h1
  | false =>
    cases h2 : ((List.range T.length).any fun s => (mkL T d).getD s false && endB T acc s) with
    | false => rfl
    | true => rw [e.mp h2] at h1; cases h1
end
theorem inV_tr : ∀ L : List Bool, inV (.bl true) (L.map V.bl) = L.any id
  | [] => rfl
  | a :: L => by
    have ih := inV_tr L
    unfold inV at ih ⊢
    rw [List.map_cons, List.any_cons, ih, List.any_cons]
    cases a <;> rfl
theorem flat_b (L : List Bool) : (L.map V.bl).all flatV = true := List.all_eq_true.mpr fun z hz => by
  obtain ⟨_, _, rfl⟩ := List.mem_map.mp hz
  rfl
theorem piZ {X : Cx} (K : PySem.W.Frag) {e e2 : Expr} {ta : TA} {p pos tpos : Pos} {elts : List Expr} {kk : Nat} (hg : Gl X "zip") (hm : X.mg "zip" = none) (ha : PA X [e, e2] ta)
    (hs : starEach [e, e2] X.env = (false, eval e X.env) :: starEach [e2] X.env := by rfl) (hpl : (backTo pos (starEach [e2] X.env)).any (·.1) = false := by rfl) (h : X.K = K := by rfl) :
    PI X (.Tuple elts kk tpos) (.Call (.Name "zip" p) [e, e2] [] pos) (iZip K ta) := h ▸ pi_zip hg hm ha hs hpl
end Dw

namespace Dw
open PySem PySem.Spec PyProof.Rows L2 SX
section
variable {w : Nat} {T : List (List Int)} {acc : List Bool}
/-- a machine of width 1 takes a number -/
def accN (T : List (List Int)) (acc : List Bool) (m : Nat) : Bool := acc.getD (runT T 0 (bitsL m (blen m))) false
theorem bitsL_lt1 (n k : Nat) : ∀ l ∈ bitsL n k, l < 2 ^ 1 := fun l hl => bitsL_bits n k l hl
theorem bitsL_pad {m k z : Nat} (h : m < 2 ^ k) : bitsL m (k + z) = bitsL m k ++ List.replicate z 0 := by
  refine List.ext_getElem (by simp [bitsL]) fun i p q => ?_
  by_cases hi : i < k
  · rw [List.getElem_append_left (by rw [bitsL_len]; exact hi)]
    simp [bitsL]
  · rw [List.getElem_append_right (by rw [bitsL_len]; omega), List.getElem_replicate]
    have : m / 2 ^ i = 0 := Nat.div_eq_of_lt (Nat.lt_of_lt_of_le h (Nat.pow_le_pow_right (by decide) (by omega)))
    simp [bitsL, this]
theorem accN_pad (k : MOk 1 T acc) {m n : Nat} (h : m < 2 ^ n) : acc.getD (runT T 0 (bitsL m n)) false = accN T acc m := by
  have hb := blen_le h
  have e : bitsL m n = bitsL m (blen m) ++ List.replicate (n - blen m) 0 := by
    rw [← bitsL_pad (lt_blen m), show blen m + (n - blen m) = n by omega]
  unfold accN
  rw [e, runT_app, List.getD_eq_getElem?_getD, List.getD_eq_getElem?_getD, k.zeros]
  exact runT_lt k.good _ _ (bitsL_lt1 m _) k.pos
/-- an accepting state behind so many letters -/
def accE (T : List (List Int)) (acc : List Bool) (d : Nat) : Bool := (stL T d).any fun s => acc.getD s false
theorem accE_any (k : MOk w T acc) (d : Nat) : ((List.range T.length).any fun s => (mkL T d).getD s false && acc.getD s false) = accE T acc d := by
  have e : ((List.range T.length).any fun s => (mkL T d).getD s false && acc.getD s false) = true ↔ accE T acc d = true := by
    unfold accE
    rw [List.any_eq_true, List.any_eq_true]
    constructor
    · rintro ⟨s, hs, h⟩
      rw [Bool.and_eq_true, List.getD_eq_getElem?_getD, mkL_at (List.mem_range.mp hs)] at h
      exact ⟨s, of_decide_eq_true h.1, h.2⟩
    · rintro ⟨s, hs, h⟩
      have hsT := st_lt k d s hs
      refine ⟨s, List.mem_range.mpr hsT, ?_⟩
      rw [Bool.and_eq_true, List.getD_eq_getElem?_getD, mkL_at hsT]
      exact ⟨decide_eq_true hs, h⟩
  cases h1 : accE T acc d with
  | true => exact e.mpr h1
  | false =>
    cases h2 : ((List.range T.length).any fun s => (mkL T d).getD s false && acc.getD s false) with
    | false => rfl
    | true => rw [e.mp h2] at h1; cases h1
/-- no short word is accepted, so none is -/
theorem none_acc (k : MOk w T acc) (h : ∀ d, d < T.length → accE T acc d = false) : ∀ (n : Nat) (ls : List Nat), ls.length = n → (∀ l ∈ ls, l < 2 ^ w) → acc.getD (runT T 0 ls) false = false := by
  intro n
  induction n using Nat.strongRecOn with
  | ind n ih =>
    intro ls hl hw
    by_cases hn : n < T.length
    · cases hb : acc.getD (runT T 0 ls) false with
      | false => rfl
      | true =>
        have : accE T acc n = true := List.any_eq_true.mpr ⟨_, (mem_stL k n _).mpr ⟨ls, hl, hw, rfl⟩, hb⟩
        rw [h n hn] at this
        cases this
    · obtain ⟨i, j, hij, hj, e⟩ := pigeon T.length (fun i => runT T 0 (ls.take i)) fun i _ => runT_lt k.good _ _ (fun x hx => hw x (List.mem_of_mem_take hx)) k.pos
      have e : runT T 0 (ls.take i) = runT T 0 (ls.take j) := e
      have h4 : runT T 0 (ls.take i ++ ls.drop j) = runT T 0 ls := by
        rw [runT_app, e, ← runT_app, List.take_append_drop]
      have hlen : (ls.take i ++ ls.drop j).length = n - (j - i) := by rw [List.length_append, List.length_take, List.length_drop]; omega
      rw [← h4]
      refine ih (n - (j - i)) (by omega) _ hlen fun x hx => ?_
      rcases List.mem_append.mp hx with hx | hx
      · exact hw x (List.mem_of_mem_take hx)
      · exact hw x (List.mem_of_mem_drop hx)
/-- the marked states that a digit leads to a wanted one -/
def stepW (T : List (List Int)) (ms W : List Bool) (c : Nat) : List Bool := (List.range T.length).map fun s => ms.getD s false && W.getD (nxt T s c) false
theorem stepW_at {ms W : List Bool} {c s : Nat} (hs : s < T.length) : (stepW T ms W c).getD s false = (ms.getD s false && W.getD (nxt T s c) false) := by
  unfold stepW
  rw [List.getD_eq_getElem?_getD, List.getElem?_map, List.getElem?_range hs]
  rfl
theorem stepW_len {ms W : List Bool} {c : Nat} : (stepW T ms W c).length = T.length := by unfold stepW; rw [List.length_map, List.length_range]
def anyW (W : List Bool) : Bool := W.any id
theorem stepW_any {ms W : List Bool} {c : Nat} : (stepW T ms W c).any id = true ↔ ∃ s, s < T.length ∧ ms.getD s false = true ∧ W.getD (nxt T s c) false = true := by
  unfold stepW
  rw [List.any_map, List.any_eq_true]
  constructor
  · rintro ⟨s, hs, h⟩
    have h : (ms.getD s false && W.getD (nxt T s c) false) = true := h
    rw [Bool.and_eq_true] at h
    exact ⟨s, List.mem_range.mp hs, h.1, h.2⟩
  · rintro ⟨s, hs, h1, h2⟩
    refine ⟨s, List.mem_range.mpr hs, ?_⟩
    show (ms.getD s false && W.getD (nxt T s c) false) = true
    rw [h1, h2]; rfl
/-- how far the digits are chosen: d letters in all, k of them left -/
structure Grd (T : List (List Int)) (acc : List Bool) (d k num : Nat) (W : List Bool) : Prop where
  le : k ≤ d
  len : W.length = T.length
  lt : num < 2 ^ (d - k)
  ex : ∃ s, s ∈ stL T k ∧ W.getD s false = true
  run : ∀ s, s ∈ stL T k → W.getD s false = acc.getD (runT T s (bitsL num (d - k))) false
  min : ∀ v, v < 2 ^ d → acc.getD (runT T 0 (bitsL v d)) false = true → num ≤ v / 2 ^ k
theorem Grd.start (k : MOk 1 T acc) {d : Nat} (h : accE T acc d = true) : Grd T acc d d 0 acc := by
  obtain ⟨s, hs, ha⟩ := List.any_eq_true.mp h
  refine ⟨Nat.le_refl _, k.al, Nat.two_pow_pos _, ⟨s, hs, ha⟩, fun s _ => ?_, fun v hv _ => Nat.zero_le _⟩
  rw [Nat.sub_self]
  rfl
theorem Grd.zero (k : MOk 1 T acc) {d i num : Nat} {W : List Bool} (g : Grd T acc d (i + 1) num W) (h : (stepW T (mkL T i) W 0).any id = true) : Grd T acc d i (2 * num) (stepW T (mkL T i) W 0) := by
  obtain ⟨s0, hs0, hm0, hW0⟩ := stepW_any.mp h
  rw [List.getD_eq_getElem?_getD, mkL_at hs0] at hm0
  have hle := g.le
  refine ⟨by omega, stepW_len, ?_, ⟨s0, of_decide_eq_true hm0, ?_⟩, fun s hs => ?_, fun v hv ha => ?_⟩
  · have := g.lt
    rw [show d - i = (d - (i + 1)) + 1 by omega, Nat.pow_succ]
    omega
  · rw [stepW_at hs0, List.getD_eq_getElem?_getD, mkL_at hs0]
    show (decide (s0 ∈ stL T i) && _) = true
    rw [hm0 |> fun (z : decide (s0 ∈ stL T i) = true) => z, hW0]
    rfl
  · have hsT := st_lt k i s hs
    have hn : nxt T s 0 ∈ stL T (i + 1) := List.mem_flatMap.mpr ⟨s, hs, (mem_rowN k hsT).mpr ⟨0, by decide, rfl⟩⟩
    rw [stepW_at hsT, List.getD_eq_getElem?_getD, mkL_at hsT]
    show (decide (s ∈ stL T i) && _) = _
    rw [decide_eq_true hs, Bool.true_and, g.run _ hn, show d - i = (d - (i + 1)) + 1 by omega, bitsL_succ]
    have e1 : 2 * num % 2 = 0 := by omega
    have e2 : 2 * num / 2 = num := by omega
    rw [e1, e2]
    rfl
  · have := g.min v hv ha
    rw [Nat.pow_succ, ← Nat.div_div_eq_div_mul] at this
    omega
theorem bitsL_app (v a b : Nat) : bitsL v (a + b) = bitsL v a ++ bitsL (v / 2 ^ a) b := by
  refine List.ext_getElem (by simp [bitsL]) fun i p q => ?_
  by_cases hi : i < a
  · rw [List.getElem_append_left (by rw [bitsL_len]; exact hi)]
    simp [bitsL]
  · rw [List.getElem_append_right (by rw [bitsL_len]; omega)]
    simp only [bitsL, List.getElem_map, List.getElem_range, List.length_map, List.length_range]
    rw [Nat.div_div_eq_div_mul, ← Nat.pow_add, show a + (i - a) = i by omega]
theorem Grd.one (k : MOk 1 T acc) {d i num : Nat} {W : List Bool} (g : Grd T acc d (i + 1) num W) (h : ¬ (stepW T (mkL T i) W 0).any id = true) : Grd T acc d i (2 * num + 1) (stepW T (mkL T i) W 1) := by
  have hle := g.le
  have no : ∀ s, s ∈ stL T i → W.getD (nxt T s 0) false = false := fun s hs => by
    cases hb : W.getD (nxt T s 0) false with
    | false => rfl
    | true =>
      have hsT := st_lt k i s hs
      refine absurd (stepW_any.mpr ⟨s, hsT, ?_, hb⟩) h
      rw [List.getD_eq_getElem?_getD, mkL_at hsT]
      exact decide_eq_true hs
  obtain ⟨s1, hs1, hW1⟩ := g.ex
  obtain ⟨s0, hs0, hs01⟩ := List.mem_flatMap.mp hs1
  have hs0T := st_lt k i s0 hs0
  obtain ⟨l, hl, e⟩ := (mem_rowN k hs0T).mp hs01
  have hl1 : l = 1 := by
    have : l ≠ 0 := fun z => by
      rw [z] at e
      have := no s0 hs0
      rw [e, hW1] at this
      cases this
    have : l < 2 := hl
    omega
  subst hl1
  refine ⟨by omega, stepW_len, ?_, ⟨s0, hs0, ?_⟩, fun s hs => ?_, fun v hv ha => ?_⟩
  · have := g.lt
    rw [show d - i = (d - (i + 1)) + 1 by omega, Nat.pow_succ]
    omega
  · rw [stepW_at hs0T, List.getD_eq_getElem?_getD, mkL_at hs0T]
    show (decide (s0 ∈ stL T i) && _) = true
    rw [decide_eq_true hs0, e, hW1]
    rfl
  · have hsT := st_lt k i s hs
    have hn : nxt T s 1 ∈ stL T (i + 1) := List.mem_flatMap.mpr ⟨s, hs, (mem_rowN k hsT).mpr ⟨1, by decide, rfl⟩⟩
    rw [stepW_at hsT, List.getD_eq_getElem?_getD, mkL_at hsT]
    show (decide (s ∈ stL T i) && _) = _
    rw [decide_eq_true hs, Bool.true_and, g.run _ hn, show d - i = (d - (i + 1)) + 1 by omega, bitsL_succ]
    have e1 : (2 * num + 1) % 2 = 1 := by omega
    have e2 : (2 * num + 1) / 2 = num := by omega
    rw [e1, e2]
    rfl
  · have hmin := g.min v hv ha
    rw [Nat.pow_succ, ← Nat.div_div_eq_div_mul] at hmin
    rcases Nat.lt_or_ge (2 * num) (v / 2 ^ i) with z | z
    · exact z
    · have hd : v / 2 ^ i = 2 * num := by omega
      have hsi : runT T 0 (bitsL v i) ∈ stL T i := (mem_stL k i _).mpr ⟨bitsL v i, bitsL_len v i, bitsL_lt1 v i, rfl⟩
      have hsT := st_lt k i _ hsi
      have hn : nxt T (runT T 0 (bitsL v i)) 0 ∈ stL T (i + 1) := List.mem_flatMap.mpr ⟨_, hsi, (mem_rowN k hsT).mpr ⟨0, by decide, rfl⟩⟩
      have h1 := g.run _ hn
      rw [no _ hsi] at h1
      have e3 : bitsL v d = bitsL v i ++ bitsL (v / 2 ^ i) ((d - (i + 1)) + 1) := by
        rw [← bitsL_app, show i + ((d - (i + 1)) + 1) = d by omega]
      rw [e3, hd, bitsL_succ, runT_app] at ha
      have e1 : 2 * num % 2 = 0 := by omega
      have e2 : 2 * num / 2 = num := by omega
      rw [e1, e2] at ha
      have ha : acc.getD (runT T (nxt T (runT T 0 (bitsL v i)) 0) (bitsL num (d - (i + 1)))) false = true := ha
      rw [← h1] at ha
      cases ha
/-- the least number that is taken, if there is one -/
def LeastN (T : List (List Int)) (acc : List Bool) : Option Nat → Prop
  | none => ∀ m, accN T acc m = false
  | some n => accN T acc n = true ∧ ∀ m, m < n → accN T acc m = false
theorem Grd.least (k : MOk 1 T acc) {d num : Nat} {W : List Bool} (g : Grd T acc d 0 num W) : LeastN T acc (some num) := by
  have hlt := g.lt
  rw [Nat.sub_zero] at hlt
  obtain ⟨s, hs, hW⟩ := g.ex
  have h0 : s = 0 := List.mem_singleton.mp hs
  subst h0
  have hr := g.run 0 hs
  rw [Nat.sub_zero, hW] at hr
  refine ⟨by rw [← accN_pad k hlt, ← hr], fun m hm => ?_⟩
  cases hb : accN T acc m with
  | false => rfl
  | true =>
    have hmd : m < 2 ^ d := Nat.lt_trans hm hlt
    rw [← accN_pad k hmd] at hb
    have := g.min m hmd hb
    rw [Nat.pow_zero, Nat.div_one] at this
    omega
theorem least_none (k : MOk 1 T acc) (h : ∀ d, d < T.length → accE T acc d = false) : LeastN T acc none := fun m => none_acc k h _ _ rfl (bitsL_lt1 m _)
theorem LeastN.uniq {a b : Option Nat} (ha : LeastN T acc a) (hb : LeastN T acc b) : a = b := by
  match a, b, ha, hb with
  | none, none, _, _ => rfl
  | none, some n, ha, hb => have := ha n; rw [hb.1] at this; cases this
  | some n, none, ha, hb => have := hb n; rw [ha.1] at this; cases this
  | some n, some m, ha, hb =>
    rcases Nat.lt_trichotomy n m with h | h | h
    · have := hb.2 n h; rw [ha.1] at this; cases this
    · rw [h]
    · have := ha.2 m h; rw [hb.1] at this; cases this
end
theorem piRev {X : Cx} (K : PySem.W.Frag) {tg : Expr} {e : Expr} {ta : TA} {p pos : Pos} (hg : Gl X "reversed") (hm : X.mg "reversed" = none) (ha : PA X [e] ta) (hs : starEach [e] X.env = [(false, eval e X.env)] := by rfl) (h : X.K = K := by rfl) : PI X tg (.Call (.Name "reversed" p) [e] [] pos) (iRev K ta) := h ▸ pi_reversed hg hm ha hs
theorem cutV_drop1 (xs : List V) (v : V) : cutV (xs ++ [v]) none (some (-1)) = xs := by
  unfold cutV HT.sIx
  simp
  rw [show (-1 + ((xs.length : Int) + 1)).toNat = xs.length by omega, List.take_append_of_le_length (Nat.le_refl _), List.take_length]
theorem accE_some {T : List (List Int)} {acc : List Bool} (k : MOk 1 T acc) {d : Nat} (h : accE T acc d = true) : ∃ v, v < 2 ^ d ∧ accN T acc v = true := by
  obtain ⟨s, hs, ha⟩ := List.any_eq_true.mp h
  obtain ⟨ls, h1, h2, h3⟩ := (mem_stL k d s).mp hs
  have hb : Bits ls := h2
  have hv := lo_lt hb
  rw [h1] at hv
  have e := bitsL_lo hb
  rw [h1] at e
  exact ⟨lo ls, hv, by rw [← accN_pad k hv, e, h3]; exact ha⟩
end Dw

namespace Dw
open PySem PySem.Spec PyProof.Rows L2 SX
/-! values that may be no formulas -/
inductive NoTup (H : Hp) : V → Prop
  | non : NoTup H .non
  | int (i : Int) : NoTup H (.int i)
  | bl (b : Bool) : NoTup H (.bl b)
  | str (z : Str) : NoTup H (.str z)
  | lst {a : Addr} {xs : List V} (h : H a = some (.lst xs)) : NoTup H (.ref a)
theorem NoTup.same {H H' : Hp} {x : V} (s : Same H H') : NoTup H x → NoTup H' x
  | .non => .non
  | .int i => .int i
  | .bl b => .bl b
  | .str z => .str z
  | .lst h => .lst (s _ _ h)
theorem NoTup.isi {K : PySem.W.Frag} {H : Hp} {x : V} {Q : VK} (h : NoTup H x) (q : Q (.bl false) H) : rIsi K [x, .ty "tuple"] H Q := by
  cases h with
  | non => exact isi_of (b := false) (.base .non) (kit_ty (by decide +kernel)) q
  | int i => exact isi_of (b := false) (.base (.int _)) (kit_ty (by decide +kernel)) q
  | bl b => exact isi_of (b := false) (.base (.bl _)) (kit_ty (by decide +kernel)) q
  | str z => exact isi_of (b := false) (.base (.str _)) (kit_ty (by decide +kernel)) q
  | lst h => exact isi_of (b := false) (.base (.lst h)) (kit_ty (by decide +kernel)) q
theorem NoStr.same {H H' : Hp} {x : V} (s : Same H H') (h : NoStr H x) : NoStr H' x := by
  cases h with
  | non => exact .non
  | int i => exact .int i
  | bl b => exact .bl b
  | tup h => exact .tup (s _ _ h)
theorem NoStr.isi {K : PySem.W.Frag} {H : Hp} {x : V} {Q : VK} (h : NoStr H x) (q : Q (.bl false) H) : rIsi K [x, .ty "str"] H Q := by
  cases h with
  | non => exact isi_of (b := false) (.base .non) (kit_ty (by decide +kernel)) q
  | int i => exact isi_of (b := false) (.base (.int _)) (kit_ty (by decide +kernel)) q
  | bl b => exact isi_of (b := false) (.base (.bl _)) (kit_ty (by decide +kernel)) q
  | tup h => exact isi_of (b := false) (.base (.tup h)) (kit_ty (by decide +kernel)) q
/-- a value that is no name: told by a test of signs -/
def nameB (l : List Nat) : Bool := run LOW l && !decide (l ∈ RES)
inductive BadName (H : Hp) : V → Prop
  | str {l : List Nat} (h : l.length ≤ 1000) (b : nameB l = false) : BadName H (.str (S l))
  | no {x : V} (h : NoStr H x) : BadName H x
theorem BadName.same {H H' : Hp} {x : V} (s : Same H H') : BadName H x → BadName H' x
  | .str h b => .str h b
  | .no h => .no (h.same s)
inductive BadWord (H : Hp) : V → Prop
  | str {l : List Nat} (h : l.length ≤ 1000) (b : run UPP l = false) : BadWord H (.str (S l))
  | no {x : V} (h : NoStr H x) : BadWord H x
theorem BadWord.same {H H' : Hp} {x : V} (s : Same H H') : BadWord H x → BadWord H' x
  | .str h b => .str h b
  | .no h => .no (h.same s)
theorem gword_run {l : List Nat} (h : GWord l) : run UPP l = true := by
  unfold run
  obtain ⟨⟨c, r, rfl, hc⟩, h2, h3⟩ := h
  simp only [Bool.and_eq_true, decide_eq_true_eq, List.all_eq_true]
  exact ⟨⟨⟨by simp, h3⟩, decide_eq_true hc⟩, h2⟩
/-- a pair of a term, or none -/
inductive PairAt (H : Hp) : V → Bool → Prop
  | good {a : Addr} {l : List Nat} {i : Int} (h : H a = some (.tup [.str (S l), .int i])) (g : GName l) (o : okC i = true) (z : i ≠ 0) : PairAt H (.ref a) true
  | no {x : V} (h : NoTup H x) : PairAt H x false
  | len {a : Addr} {xs : List V} (h : H a = some (.tup xs)) (l : xs.length ≠ 2) : PairAt H (.ref a) false
  | name {a : Addr} {x y : V} (h : H a = some (.tup [x, y])) (b : BadName H x) : PairAt H (.ref a) false
  | coef {a : Addr} {l : List Nat} {i : Int} (h : H a = some (.tup [.str (S l), .int i])) (g : GName l) (o : okC i = false ∨ i = 0) : PairAt H (.ref a) false
  | flag {a : Addr} {l : List Nat} {b : Bool} (h : H a = some (.tup [.str (S l), .bl b])) (g : GName l) : PairAt H (.ref a) false
theorem PairAt.same {H H' : Hp} {x : V} {b : Bool} (s : Same H H') (h : PairAt H x b) : PairAt H' x b := by
  cases h with
  | good h g o z => exact .good (s _ _ h) g o z
  | no h => exact .no (h.same s)
  | len h l => exact .len (s _ _ h) l
  | name h b => exact .name (s _ _ h) (b.same s)
  | coef h g o => exact .coef (s _ _ h) g o
  | flag h g => exact .flag (s _ _ h) g
def PairsAt (H : Hp) : List V → List Bool → Prop
  | [], [] => True
  | x :: xs, b :: bs => PairAt H x b ∧ PairsAt H xs bs
  | _, _ => False
theorem PairsAt.same {H H' : Hp} (s : Same H H') : ∀ {xs : List V} {bs : List Bool}, PairsAt H xs bs → PairsAt H' xs bs
  | [], [], _ => trivial
  | _ :: _, _ :: _, ⟨h1, h2⟩ => ⟨h1.same s, PairsAt.same s h2⟩
  | [], _ :: _, h => h.elim
  | _ :: _, [], h => h.elim
theorem PairsAt.len {H : Hp} : ∀ {xs : List V} {bs : List Bool}, PairsAt H xs bs → xs.length = bs.length
  | [], [], _ => rfl
  | _ :: xs, _ :: bs, ⟨_, h2⟩ => congrArg (· + 1) (PairsAt.len (xs := xs) (bs := bs) h2)
  | [], _ :: _, h => h.elim
  | _ :: _, [], h => h.elim
theorem PairsAt.at_ {H : Hp} : ∀ {xs : List V} {bs : List Bool} {i : Nat} {x : V}, PairsAt H xs bs → xs[i]? = some x → ∃ b, bs[i]? = some b ∧ PairAt H x b
  | x :: xs, b :: bs, 0, _, ⟨h1, _⟩, e => by cases e; exact ⟨b, rfl, h1⟩
  | x :: xs, b :: bs, i + 1, _, ⟨_, h2⟩, e => PairsAt.at_ (xs := xs) (bs := bs) (i := i) h2 e
  | [], [], _, _, _, e => by cases e
  | [], _ :: _, _, _, h, _ => h.elim
  | _ :: _, [], _, _, h, _ => h.elim
/-- a term that has a bad pair -/
def BadTerm (H : Hp) (u : Addr) : Prop := ∃ q c pa bs, H u = some (.tup [.ref q, c]) ∧ H q = some (.tup pa) ∧ PairsAt H pa bs ∧ pa.length ≤ 40 ∧ false ∈ bs
theorem BadTerm.same {H H' : Hp} {u : Addr} (s : Same H H') (h : BadTerm H u) : BadTerm H' u := by
  obtain ⟨q, c, pa, bs, h1, h2, h3, h4⟩ := h
  exact ⟨q, c, pa, bs, s _ _ h1, s _ _ h2, h3.same s, h4⟩
/-- names that are none: no tuple, an empty one, or one with a bad name -/
inductive NameAt (H : Hp) : V → Bool → Prop
  | good {l : List Nat} (g : GName l) : NameAt H (.str (S l)) true
  | bad {x : V} (b : BadName H x) : NameAt H x false
theorem NameAt.same {H H' : Hp} {x : V} {b : Bool} (s : Same H H') : NameAt H x b → NameAt H' x b
  | .good g => .good g
  | .bad b => .bad (b.same s)
def NamesAt (H : Hp) : List V → List Bool → Prop
  | [], [] => True
  | x :: xs, b :: bs => NameAt H x b ∧ NamesAt H xs bs
  | _, _ => False
theorem NamesAt.same {H H' : Hp} (s : Same H H') : ∀ {xs : List V} {bs : List Bool}, NamesAt H xs bs → NamesAt H' xs bs
  | [], [], _ => trivial
  | _ :: _, _ :: _, ⟨h1, h2⟩ => ⟨h1.same s, NamesAt.same s h2⟩
  | [], _ :: _, h => h.elim
  | _ :: _, [], h => h.elim
theorem NamesAt.at_ {H : Hp} : ∀ {xs : List V} {bs : List Bool} {i : Nat} {x : V}, NamesAt H xs bs → xs[i]? = some x → ∃ b, bs[i]? = some b ∧ NameAt H x b
  | x :: xs, b :: bs, 0, _, ⟨h1, _⟩, e => by cases e; exact ⟨b, rfl, h1⟩
  | x :: xs, b :: bs, i + 1, _, ⟨_, h2⟩, e => NamesAt.at_ (xs := xs) (bs := bs) (i := i) h2 e
  | [], [], _, _, _, e => by cases e
  | [], _ :: _, _, _, h, _ => h.elim
  | _ :: _, [], _, _, h, _ => h.elim
theorem NamesAt.len {H : Hp} : ∀ {xs : List V} {bs : List Bool}, NamesAt H xs bs → xs.length = bs.length
  | [], [], _ => rfl
  | _ :: xs, _ :: bs, ⟨_, h2⟩ => congrArg (· + 1) (NamesAt.len (xs := xs) (bs := bs) h2)
  | [], _ :: _, h => h.elim
  | _ :: _, [], h => h.elim
theorem names_good {H : Hp} : ∀ zs : List (List Nat), (∀ z ∈ zs, GName z) → NamesAt H (zs.map vS) (zs.map fun _ => true)
  | [], _ => trivial
  | z :: zs, h => ⟨.good (h z List.mem_cons_self), names_good zs fun y hy => h y (List.mem_cons_of_mem _ hy)⟩
inductive NmsAt (H : Hp) : V → Bool → Prop
  | no {x : V} (h : NoTup H x) : NmsAt H x false
  | tup {a : Addr} {xs : List V} {bs : List Bool} (h : H a = some (.tup xs)) (n : NamesAt H xs bs) (l : xs.length ≤ 40) : NmsAt H (.ref a) (!xs.isEmpty && bs.all id)
theorem NmsAt.same {H H' : Hp} {x : V} {b : Bool} (s : Same H H') : NmsAt H x b → NmsAt H' x b
  | .no h => .no (h.same s)
  | .tup h n l => .tup (s _ _ h) (n.same s) l
/-- how many parts a node of a kind has -/
def lenK (l : List Nat) : Option Nat :=
  if l ∈ [cs "eq", cs "le", cs "pow", cs "not"] then some 2 else if l = cs "word" then some 4 else if l ∈ [cs "and", cs "or", cs "imp", cs "iff", cs "some", cs "all", cs "call"] then some 3 else none
/-- what is no node -/
inductive BadNode (H : Hp) : V → Prop
  | no {x : V} (h : NoTup H x) : BadNode H x
  | nil {a : Addr} (h : H a = some (.tup [])) : BadNode H (.ref a)
  | head {a : Addr} {x : V} {xs : List V} (h : H a = some (.tup (x :: xs))) (n : NoStr H x) : BadNode H (.ref a)
  | kind {a : Addr} {l : List Nat} {xs : List V} (h : H a = some (.tup (.str (S l) :: xs))) (n : lenK l = none) : BadNode H (.ref a)
  | len {a : Addr} {l : List Nat} {xs : List V} {n : Nat} (h : H a = some (.tup (.str (S l) :: xs))) (k : lenK l = some n) (ne : xs.length + 1 ≠ n) : BadNode H (.ref a)
  | cmp {a u : Addr} (k : Bool) (h : H a = some (.tup [.str (S (kCmp k)), .ref u])) (b : BadTerm H u) : BadNode H (.ref a)
  | pow {a : Addr} {x : V} (h : H a = some (.tup [.str (S (cs "pow")), x])) (b : BadName H x) : BadNode H (.ref a)
  | qf {a : Addr} {x y : V} (k : Bool) (h : H a = some (.tup [.str (S (kQf k)), x, y])) (b : BadName H x) : BadNode H (.ref a)
  | word {a : Addr} {x y z : V} (h : H a = some (.tup [.str (S (cs "word")), x, y, z])) (b : BadWord H x) : BadNode H (.ref a)
  | call {a : Addr} {f : List Nat} {x : V} (h : H a = some (.tup [.str (S (cs "call")), .str (S f), x])) (g : GName f) (b : NmsAt H x false) : BadNode H (.ref a)
theorem BadNode.same {H H' : Hp} {x : V} (s : Same H H') (h : BadNode H x) : BadNode H' x := by
  cases h with
  | no h => exact .no (h.same s)
  | nil h => exact .nil (s _ _ h)
  | head h n => exact .head (s _ _ h) (n.same s)
  | kind h n => exact .kind (s _ _ h) n
  | len h k n => exact .len (s _ _ h) k n
  | cmp k h b => exact .cmp k (s _ _ h) (b.same s)
  | pow h b => exact .pow (s _ _ h) (b.same s)
  | qf k h b => exact .qf k (s _ _ h) (b.same s)
  | word h b => exact .word (s _ _ h) (b.same s)
  | call h g b => exact .call (s _ _ h) g (b.same s)
def leafF : Fm → Prop
  | .not _ => False
  | .bin _ _ _ => False
  | .qf _ _ _ => False
  | _ => True
/-- a node, good or not -/
inductive NodeAt (H : Hp) : V → Bool → Prop
  | leaf {t : Addr} {f : Fm} (h : FmAt H t f) (g : f.Good) (s : leafF f) : NodeAt H (.ref t) true
  | not {t : Addr} {x : V} (h : H t = some (.tup [.str (S (cs "not")), x])) : NodeAt H (.ref t) true
  | bin {t : Addr} {x y : V} (k : Fin 4) (h : H t = some (.tup [.str (S (kBin k)), x, y])) : NodeAt H (.ref t) true
  | qf {t : Addr} {x : V} {z : List Nat} (k : Bool) (h : H t = some (.tup [.str (S (kQf k)), .str (S z), x])) (g : GName z) : NodeAt H (.ref t) true
  | bad {x : V} (b : BadNode H x) : NodeAt H x false
/-- a tree of nodes, good or not -/
inductive Tr
  | mk (good : Bool) (ps : List Tr)
inductive FxAt (H : Hp) : V → Tr → Prop
  | leaf {t : Addr} {f : Fm} (h : FmAt H t f) (g : f.Good) (s : leafF f) : FxAt H (.ref t) (.mk true [])
  | bad {x : V} (b : BadNode H x) : FxAt H x (.mk false [])
  | not {t : Addr} {x : V} {a : Tr} (h : H t = some (.tup [.str (S (cs "not")), x])) (p : FxAt H x a) : FxAt H (.ref t) (.mk true [a])
  | bin {t : Addr} {x y : V} {a b : Tr} (k : Fin 4) (h : H t = some (.tup [.str (S (kBin k)), x, y])) (p : FxAt H x a) (q : FxAt H y b) : FxAt H (.ref t) (.mk true [a, b])
  | qf {t : Addr} {x : V} {z : List Nat} {a : Tr} (k : Bool) (h : H t = some (.tup [.str (S (kQf k)), .str (S z), x])) (g : GName z) (p : FxAt H x a) : FxAt H (.ref t) (.mk true [a])
theorem FxAt.same {H H' : Hp} {x : V} {t : Tr} (s : Same H H') (h : FxAt H x t) : FxAt H' x t := by
  induction h with
  | leaf h g s' => exact .leaf (h.tups (Tups.same s)) g s'
  | bad b => exact .bad (b.same s)
  | not h p ih => exact .not (s _ _ h) ih
  | bin k h p q i1 i2 => exact .bin k (s _ _ h) i1 i2
  | qf k h g p ih => exact .qf k (s _ _ h) g ih
def trF : Fm → Tr
  | .not a => .mk true [trF a]
  | .bin _ a b => .mk true [trF a, trF b]
  | .qf _ _ a => .mk true [trF a]
  | _ => .mk true []
theorem fx_of {H : Hp} : ∀ {f : Fm} {t : Addr}, FmAt H t f → f.Good → FxAt H (.ref t) (trF f)
  | .pow _, _, h, g => .leaf h g trivial
  | .word _ _ _, _, h, g => .leaf h g trivial
  | .cmp _ _ _, _, h, g => .leaf h g trivial
  | .call _ _, _, h, g => .leaf h g trivial
  | .not a, _, ⟨_, h1, h2⟩, g => .not h1 (fx_of (f := a) h2 g)
  | .bin k a b, _, ⟨_, _, h1, h2, h3⟩, g => .bin k h1 (fx_of (f := a) h2 g.1) (fx_of (f := b) h3 g.2)
  | .qf k z a, _, ⟨_, h1, h2⟩, g => .qf k h1 g.1 (fx_of (f := a) h2 g.2)
mutual
def szT : Tr → Nat
  | .mk _ ps => szL ps + 1
def szL : List Tr → Nat
  | [] => 0
  | t :: ts => szT t + szL ts
end
mutual
def okT : Tr → Int → Bool
  | .mk g ps, l => g && decide (l ≤ 30) && okL ps (l + 1)
def okL : List Tr → Int → Bool
  | [], _ => true
  | t :: ts, l => okT t l && okL ts l
end
def FxsAt (H : Hp) : List V → List Tr → Prop
  | [], [] => True
  | x :: xs, t :: ts => FxAt H x t ∧ FxsAt H xs ts
  | _, _ => False
theorem FxsAt.same {H H' : Hp} (s : Same H H') : ∀ {xs : List V} {ts : List Tr}, FxsAt H xs ts → FxsAt H' xs ts
  | [], [], _ => trivial
  | _ :: _, _ :: _, ⟨h1, h2⟩ => ⟨h1.same s, FxsAt.same s h2⟩
  | [], _ :: _, h => h.elim
  | _ :: _, [], h => h.elim
theorem FxsAt.len {H : Hp} : ∀ {xs : List V} {ts : List Tr}, FxsAt H xs ts → xs.length = ts.length
  | [], [], _ => rfl
  | _ :: xs, _ :: ts, ⟨_, h2⟩ => congrArg (· + 1) (FxsAt.len (xs := xs) (ts := ts) h2)
  | [], _ :: _, h => h.elim
  | _ :: _, [], h => h.elim
theorem FxsAt.at_ {H : Hp} : ∀ {xs : List V} {ts : List Tr} {i : Nat} {x : V}, FxsAt H xs ts → xs[i]? = some x → ∃ t, ts[i]? = some t ∧ FxAt H x t
  | x :: xs, t :: ts, 0, _, ⟨h1, _⟩, e => by cases e; exact ⟨t, rfl, h1⟩
  | x :: xs, t :: ts, i + 1, _, ⟨_, h2⟩, e => FxsAt.at_ (xs := xs) (ts := ts) (i := i) h2 e
  | [], [], _, _, _, e => by cases e
  | [], _ :: _, _, _, h, _ => h.elim
  | _ :: _, [], _, _, h, _ => h.elim
theorem FxAt.node {H : Hp} {x : V} {g : Bool} {ps : List Tr} (h : FxAt H x (.mk g ps)) : NodeAt H x g := by
  cases h with
  | leaf h g s => exact .leaf h g s
  | bad b => exact .bad b
  | not h p => exact .not h
  | bin k h p q => exact .bin k h
  | qf k h g p => exact .qf k h g
theorem FxAt.few {H : Hp} {x : V} {g : Bool} {ps : List Tr} (h : FxAt H x (.mk g ps)) : ps.length ≤ 2 := by
  cases h <;> simp
theorem tups_lst {H : Hp} {q : Addr} {xs : List V} {o : HO} (h : H q = some (.lst xs)) : Tups H (upd H q o) := fun a ys e => by
  rw [upd_ne (ne_of e h (fun z => nomatch z))]
  exact e
/-! a stack of values with levels -/
def szS (xs : List (Tr × Int)) : Nat := (xs.map fun x => szT x.1).sum
def okS (xs : List (Tr × Int)) : Bool := xs.all fun x => okT x.1 x.2
theorem szT_pos : ∀ t : Tr, 0 < szT t
  | .mk _ _ => Nat.succ_pos _
theorem szL_sum : ∀ (ps : List Tr) (l : Int), szS (ps.map fun t => (t, l)) = szL ps
  | [], _ => rfl
  | t :: ts, l => by
    have := szL_sum ts l
    unfold szS at this ⊢
    simp only [List.map_cons, List.sum_cons, szL]
    rw [this]
theorem okL_all : ∀ (ps : List Tr) (l : Int), okS (ps.map fun t => (t, l)) = okL ps l
  | [], _ => rfl
  | t :: ts, l => by
    have := okL_all ts l
    unfold okS at this ⊢
    simp only [List.map_cons, List.all_cons, okL]
    rw [this]
theorem szS_app (a b : List (Tr × Int)) : szS (a ++ b) = szS a + szS b := by unfold szS; rw [List.map_append, List.sum_append]
theorem okS_app (a b : List (Tr × Int)) : okS (a ++ b) = (okS a && okS b) := by unfold okS; rw [List.all_append]
theorem szS_len (a : List (Tr × Int)) : a.length ≤ szS a := by
  induction a with
  | nil => exact Nat.le_refl _
  | cons x a ih =>
    have := szT_pos x.1
    unfold szS at ih ⊢
    rw [List.map_cons, List.sum_cons, List.length_cons]
    omega
/-- the stack as it stands; the values stand in H -/
def StAt (H H2 : Hp) : List Addr → List (Tr × Int) → Prop
  | [], [] => True
  | e :: es, x :: xs => (∃ v, H2 e = some (.tup [v, .int x.2]) ∧ FxAt H v x.1) ∧ StAt H H2 es xs
  | _, _ => False
theorem StAt.tups {H H2 H3 : Hp} (t : Tups H2 H3) : ∀ {es : List Addr} {xs : List (Tr × Int)}, StAt H H2 es xs → StAt H H3 es xs
  | [], [], _ => trivial
  | _ :: es, _ :: xs, ⟨⟨v, h1, h2⟩, h3⟩ => ⟨⟨v, t _ _ h1, h2⟩, StAt.tups t (es := es) (xs := xs) h3⟩
  | [], _ :: _, h => h.elim
  | _ :: _, [], h => h.elim
theorem StAt.len {H H2 : Hp} : ∀ {es : List Addr} {xs : List (Tr × Int)}, StAt H H2 es xs → es.length = xs.length
  | [], [], _ => rfl
  | _ :: es, _ :: xs, ⟨_, h2⟩ => congrArg (· + 1) (StAt.len (es := es) (xs := xs) h2)
  | [], _ :: _, h => h.elim
  | _ :: _, [], h => h.elim
theorem StAt.append {H H2 : Hp} : ∀ {as bs : List Addr} {xs ys : List (Tr × Int)}, StAt H H2 as xs → StAt H H2 bs ys → StAt H H2 (as ++ bs) (xs ++ ys)
  | [], _, [], _, _, h => h
  | _ :: _, _, _ :: _, _, ⟨h1, h2⟩, h => ⟨h1, StAt.append h2 h⟩
  | [], _, _ :: _, _, h, _ => h.elim
  | _ :: _, _, [], _, h, _ => h.elim
theorem StAt.split {H H2 : Hp} : ∀ {as : List Addr} {a : Addr} {xs : List (Tr × Int)}, StAt H H2 (as ++ [a]) xs → ∃ ys x, xs = ys ++ [x] ∧ StAt H H2 as ys ∧ ∃ v, H2 a = some (.tup [v, .int x.2]) ∧ FxAt H v x.1
  | [], a, [x], h => ⟨[], x, rfl, trivial, h.1⟩
  | [], a, x :: y :: r, h => h.2.elim
  | [], a, [], h => h.elim
  | b :: as, a, [], h => h.elim
  | b :: as, a, x :: xs, ⟨h1, h2⟩ => by
    obtain ⟨ys, y, e, h3, h4⟩ := StAt.split (as := as) (a := a) (xs := xs) h2
    exact ⟨x :: ys, y, by rw [e]; rfl, ⟨h1, h3⟩, h4⟩
/-- what a test of the whole tree says -/
def isFT (t : Tr) : Bool := okT t 1 && decide (szT t ≤ 200)
end Dw

namespace Dw
open PySem PySem.Spec PyProof.Rows L2 SX
mutual
def dpT : Tr → Nat
  | .mk _ ps => dpL ps + 1
def dpL : List Tr → Nat
  | [] => 0
  | t :: ts => max (dpT t) (dpL ts)
end
theorem dpL_le : ∀ {ps : List Tr} {t : Tr}, t ∈ ps → dpT t ≤ dpL ps
  | p :: ps, t, h => by
    rcases List.mem_cons.mp h with rfl | h
    · exact Nat.le_max_left _ _
    · exact Nat.le_trans (dpL_le h) (Nat.le_max_right _ _)
theorem dpL_at : ∀ {ps : List Tr}, ps ≠ [] → ∃ t ∈ ps, dpT t = dpL ps
  | [t], _ => ⟨t, List.mem_cons_self, by simp [dpL]⟩
  | t :: u :: ps, _ => by
    obtain ⟨v, h1, h2⟩ := dpL_at (ps := u :: ps) (by simp)
    by_cases h : dpT t ≤ dpL (u :: ps)
    · exact ⟨v, List.mem_cons_of_mem _ h1, by rw [h2]; show _ = max _ _; omega⟩
    · exact ⟨t, List.mem_cons_self, by show _ = max _ _; omega⟩
mutual
def gdT : Tr → Bool
  | .mk g ps => g && gdL ps
def gdL : List Tr → Bool
  | [] => true
  | t :: ts => gdT t && gdL ts
end
theorem gdL_at : ∀ {ps : List Tr} {t : Tr}, gdL ps = true → t ∈ ps → gdT t = true
  | p :: ps, t, h, hm => by
    have h2 : gdT p = true ∧ gdL ps = true := by simpa [gdL] using h
    rcases List.mem_cons.mp hm with rfl | hm
    · exact h2.1
    · exact gdL_at h2.2 hm
/-- pairs whose second is a level -/
def LvsAt (H2 : Hp) : List Addr → List Int → Prop
  | [], [] => True
  | e :: es, l :: ls => (∃ v, H2 e = some (.tup [v, .int l])) ∧ LvsAt H2 es ls
  | _, _ => False
theorem LvsAt.tups {H2 H3 : Hp} (t : Tups H2 H3) : ∀ {es : List Addr} {xs : List Int}, LvsAt H2 es xs → LvsAt H3 es xs
  | [], [], _ => trivial
  | _ :: es, _ :: xs, ⟨⟨v, h1⟩, h3⟩ => ⟨⟨v, t _ _ h1⟩, LvsAt.tups t (es := es) (xs := xs) h3⟩
  | [], _ :: _, h => h.elim
  | _ :: _, [], h => h.elim
theorem LvsAt.len {H2 : Hp} : ∀ {es : List Addr} {xs : List Int}, LvsAt H2 es xs → es.length = xs.length
  | [], [], _ => rfl
  | _ :: es, _ :: xs, ⟨_, h2⟩ => congrArg (· + 1) (LvsAt.len (es := es) (xs := xs) h2)
  | [], _ :: _, h => h.elim
  | _ :: _, [], h => h.elim
theorem LvsAt.snoc {H2 : Hp} {a : Addr} {l : Int} : ∀ {es : List Addr} {xs : List Int}, LvsAt H2 es xs → (∃ v, H2 a = some (.tup [v, .int l])) → LvsAt H2 (es ++ [a]) (xs ++ [l])
  | [], [], _, h => ⟨h, trivial⟩
  | _ :: es, _ :: xs, ⟨h1, h2⟩, h => ⟨h1, LvsAt.snoc (es := es) (xs := xs) h2 h⟩
  | [], _ :: _, h, _ => h.elim
  | _ :: _, [], h, _ => h.elim
theorem LvsAt.at_ {H2 : Hp} : ∀ {es : List Addr} {xs : List Int} {i : Nat} {e : Addr}, LvsAt H2 es xs → es[i]? = some e → ∃ l v, xs[i]? = some l ∧ H2 e = some (.tup [v, .int l])
  | e :: es, l :: xs, 0, _, ⟨⟨v, h1⟩, _⟩, h => by cases h; exact ⟨l, v, rfl, h1⟩
  | e :: es, l :: xs, i + 1, _, ⟨_, h2⟩, h => LvsAt.at_ (es := es) (xs := xs) (i := i) h2 h
  | [], [], _, _, _, h => by cases h
  | [], _ :: _, _, _, h, _ => h.elim
  | _ :: _, [], _, _, h, _ => h.elim
theorem lc_itN {J : It} {n : Nat} {G : Hp → Prop} {Y : Nat → Hp → V → Hp → Prop} (w : Walk J n G Y) {g : TG} {tt : TT} {te : TE} {vs : List Nat} {σ : L2.St} {H1 : Hp} {D : Addr} {Qd : Hp → Prop} (Pv : Nat → Hp → Prop) (h0 : Pv 0 (upd H1 D (.lst []))) (hG : ∀ i H, i ≤ n → Pv i H → G H)
    (hs : ∀ i x H H' (N : Hp → Prop), i < n → Pv i H → Y i H x H' → (∀ H', Pv (i + 1) H' → N H') → g x (wipe σ vs) H' fun σ2 H2 => wipe σ2 vs = wipe σ vs ∧ tt σ2 H2 fun b H3 =>
      if b = true then te σ2 H3 fun y H4 => ∃ acc, H4 D = some (.lst acc) ∧ acc.length < sizeLine ∧ N (upd H4 D (.lst (acc ++ [y]))) else N H3) (hd : ∀ H, Pv n H → Qd H) : LcJ J g tt te vs D σ H1 Qd :=
  lc_it w Pv h0 hG (fun i x H H' hi hp y => hs i x H H' (Pv (i + 1)) hi hp y (fun _ h => h)) hd
theorem szS_rev (ps : List Tr) (l : Int) : szS (ps.reverse.map fun t => (t, l)) = szL ps := by
  rw [← szL_sum ps l]
  unfold szS
  rw [List.map_map, List.map_map, List.map_reverse, List.sum_reverse]
theorem cutV_in {xs : List V} {a b : Nat} (h1 : a ≤ b) (h2 : b ≤ xs.length) : cutV xs (some (a : Int)) (some (b : Int)) = (xs.drop a).take (b - a) := by
  unfold cutV
  rw [HT.sIx_nat, HT.sIx_nat, Nat.min_eq_left h2, Nat.min_eq_left (Nat.le_trans h1 h2)]
theorem FxAt.tupsG {H H' : Hp} {x : V} {t : Tr} (e : Tups H H') (h : FxAt H x t) (g : gdT t = true) : FxAt H' x t := by
  induction h with
  | leaf h g' s' => exact .leaf (h.tups e) g' s'
  | bad b => cases g
  | not h p ih => exact .not (e _ _ h) (ih (by simpa [gdT, gdL] using g))
  | @bin t0 x1 y1 a c k h p q i1 i2 =>
    have g2 : gdT a = true ∧ gdT c = true := by simpa [gdT, gdL] using g
    exact .bin k (e _ _ h) (i1 g2.1) (i2 g2.2)
  | qf k h g' p ih => exact .qf k (e _ _ h) g' (ih (by simpa [gdT, gdL] using g))
theorem FxsAt.tupsG {H H' : Hp} (e : Tups H H') : ∀ {as : List V} {xs : List Tr}, FxsAt H as xs → (∀ t ∈ xs, gdT t = true) → FxsAt H' as xs
  | [], [], _, _ => trivial
  | _ :: _, _ :: _, ⟨h1, h2⟩, g => ⟨h1.tupsG e (g _ List.mem_cons_self), FxsAt.tupsG e h2 fun t h => g t (List.mem_cons_of_mem _ h)⟩
  | [], _ :: _, h, _ => h.elim
  | _ :: _, [], h, _ => h.elim
theorem FxsAt.two {H : Hp} : ∀ (n : Nat) {as : List V} {xs : List Tr}, FxsAt H as xs → n + 2 ≤ xs.length →
    ∃ x y t u, (as.drop n).take 2 = [x, y] ∧ FxAt H x t ∧ FxAt H y u ∧ xs.take (n + 2) = xs.take n ++ [t, u] ∧ t ∈ xs ∧ u ∈ xs
  | 0, x :: y :: as, t :: u :: xs, ⟨h1, h2, _⟩, _ => ⟨x, y, t, u, rfl, h1, h2, rfl, by simp, by simp⟩
  | n + 1, x :: as, t :: xs, ⟨h1, h2⟩, l => by
    obtain ⟨a, b, c, d, e1, e2, e3, e4, e5, e6⟩ := FxsAt.two n h2 (by simp only [List.length_cons] at l; omega)
    refine ⟨a, b, c, d, e1, e2, e3, ?_, List.mem_cons_of_mem _ e5, List.mem_cons_of_mem _ e6⟩
    show t :: xs.take (n + 2) = t :: (xs.take n ++ [c, d])
    rw [e4]
  | _, [], [], _, l => by simp at l
  | 0, [_], [_], _, l => by simp at l
  | _, [], _ :: _, h, _ => h.elim
  | _, _ :: _, [], h, _ => h.elim
  | 0, [_], _ :: _ :: _, h, _ => h.2.elim
  | 0, _ :: _ :: _, [_], h, _ => h.2.elim
/-- what the whole test says: by the deepest level -/
theorem okT_dp : ∀ (t : Tr) (l : Int), okT t l = (gdT t && decide (l + (dpT t : Int) - 1 ≤ 30))
  | .mk g ps, l => by
    have := okL_dp ps (l + 1)
    have h0 : ∀ n : Nat, (l + ((n + 1 : Nat) : Int) - 1 ≤ 30) = (l + n ≤ 30) := fun n => by
      rw [eq_iff_iff]; omega
    simp only [okT, gdT, dpT, h0]
    rw [this]
    cases g with
    | false => rfl
    | true =>
      cases gdL ps with
      | false => simp
      | true =>
        simp only [Bool.true_and]
        cases ps with
        | nil => simp [dpL]
        | cons t ts =>
          have h1 : 1 ≤ dpL (t :: ts) := by
            have : 1 ≤ dpT t := by cases t with | mk g ps => exact Nat.succ_pos _
            exact Nat.le_trans this (Nat.le_max_left _ _)
          rw [Bool.eq_iff_iff]
          simp only [Bool.and_eq_true, Bool.or_eq_true, decide_eq_true_eq, List.isEmpty_cons, Bool.false_eq_true, false_or]
          omega
where okL_dp : ∀ (ps : List Tr) (l : Int), okL ps l = (gdL ps && (ps.isEmpty || decide (l + (dpL ps : Int) - 1 ≤ 30)))
  | [], l => rfl
  | t :: ts, l => by
    simp only [okL, gdL]
    rw [okT_dp t l, okL_dp ts l]
    cases gdT t with
    | false => rfl
    | true =>
      cases gdL ts with
      | false => simp
      | true =>
        simp only [Bool.true_and, List.isEmpty_cons, Bool.false_or]
        cases ts with
        | nil => simp [dpL]
        | cons u us =>
          have e : dpL (t :: u :: us) = max (dpT t) (dpL (u :: us)) := rfl
          rw [e, Bool.eq_iff_iff]
          simp only [Bool.and_eq_true, Bool.or_eq_true, decide_eq_true_eq, List.isEmpty_cons, Bool.false_eq_true, false_or]
          omega
theorem isFT_of {t : Tr} : isFT t = (gdT t && decide (dpT t ≤ 30) && decide (szT t ≤ 200)) := by
  unfold isFT
  rw [okT_dp]
  congr 2
  rw [decide_eq_decide]
  omega
mutual
theorem szF_le : ∀ f : Fm, gdT (trF f) = true ∧ dpT (trF f) ≤ f.dep + 1 ∧ szT (trF f) + 1 ≤ 2 ^ (f.dep + 1)
  | .not a => by
    obtain ⟨h1, h2, h3⟩ := szF_le a
    refine ⟨by simpa [trF, gdT, gdL] using h1, by simp [trF, dpT, dpL, Fm.dep]; exact h2, ?_⟩
    simp only [trF, szT, szL, Fm.dep]
    rw [Nat.pow_succ]
    omega
  | .qf _ _ a => by
    obtain ⟨h1, h2, h3⟩ := szF_le a
    refine ⟨by simpa [trF, gdT, gdL] using h1, by simp [trF, dpT, dpL, Fm.dep]; exact h2, ?_⟩
    simp only [trF, szT, szL, Fm.dep]
    rw [Nat.pow_succ]
    omega
  | .bin _ a b => by
    obtain ⟨h1, h2, h3⟩ := szF_le a
    obtain ⟨h4, h5, h6⟩ := szF_le b
    refine ⟨by simpa [trF, gdT, gdL] using ⟨h1, h4⟩, by simp only [trF, dpT, dpL, Fm.dep]; omega, ?_⟩
    simp only [trF, szT, szL, Fm.dep]
    have h7 : 2 ^ (a.dep + 1) ≤ 2 ^ (max a.dep b.dep + 1) := Nat.pow_le_pow_right (by decide) (by omega)
    have h8 : 2 ^ (b.dep + 1) ≤ 2 ^ (max a.dep b.dep + 1) := Nat.pow_le_pow_right (by decide) (by omega)
    rw [Nat.pow_succ 2 (max a.dep b.dep + 1)]
    omega
  | .pow _ => by simp [trF, gdT, gdL, dpT, dpL, szT, szL, Fm.dep]
  | .word _ _ _ => by simp [trF, gdT, gdL, dpT, dpL, szT, szL, Fm.dep]
  | .cmp _ _ _ => by simp [trF, gdT, gdL, dpT, dpL, szT, szL, Fm.dep]
  | .call _ _ => by simp [trF, gdT, gdL, dpT, dpL, szT, szL, Fm.dep]
end
theorem FxsAt.append {H : Hp} : ∀ {as bs : List V} {xs ys : List Tr}, FxsAt H as xs → FxsAt H bs ys → FxsAt H (as ++ bs) (xs ++ ys)
  | [], _, [], _, _, h => h
  | _ :: _, _, _ :: _, _, ⟨h1, h2⟩, h => ⟨h1, FxsAt.append h2 h⟩
  | [], _, _ :: _, _, h, _ => h.elim
  | _ :: _, _, [], _, h, _ => h.elim
theorem FxsAt.drop {H : Hp} : ∀ (n : Nat) {as : List V} {xs : List Tr}, FxsAt H as xs → FxsAt H (as.drop n) (xs.drop n)
  | 0, _, _, h => h
  | n + 1, [], [], h => h
  | n + 1, _ :: _, _ :: _, ⟨_, h2⟩ => FxsAt.drop n h2
  | n + 1, [], _ :: _, h => h.elim
  | n + 1, _ :: _, [], h => h.elim
theorem FxsAt.rep {H : Hp} {x : V} {t : Tr} (h : FxAt H x t) : ∀ n : Nat, FxsAt H (List.replicate n x) (List.replicate n t)
  | 0 => trivial
  | n + 1 => ⟨h, FxsAt.rep h n⟩
end Dw

namespace Dw
open PySem PySem.Spec PyProof.Rows L2 SX
/-- tuples stay, lists stay lists -/
structure Kp (H H' : Hp) : Prop where
  tup : Tups H H'
  lst : ∀ a xs, H a = some (.lst xs) → ∃ ys, H' a = some (.lst ys)
theorem Kp.same {H H' : Hp} (s : Same H H') : Kp H H' := ⟨Tups.same s, fun a xs h => ⟨xs, s _ _ h⟩⟩
theorem Kp.refl (H : Hp) : Kp H H := ⟨fun _ _ h => h, fun a xs h => ⟨xs, h⟩⟩
theorem Kp.trans {H H1 H2 : Hp} (a : Kp H H1) (b : Kp H1 H2) : Kp H H2 := ⟨a.1.trans b.1, fun x xs h => by
  obtain ⟨ys, h1⟩ := a.2 x xs h
  exact b.2 x ys h1⟩
theorem Kp.pool {H H' : Hp} {p q : Addr} {ns ms : List Int} (hP : Pool H p q ns) (e : But p H H') (hP' : Pool H' p q ms) : Kp H H' := ⟨Tups.pool hP e, fun a xs h => by
  by_cases z : a = p
  · obtain ⟨_, _, x, k, hp, _⟩ := hP'
    exact ⟨_, by rw [z]; exact hp⟩
  · exact ⟨xs, e a _ z h⟩⟩
theorem Kp.lset {H : Hp} {l : Addr} {xs ys : List V} (h : H l = some (.lst xs)) : Kp H (upd H l (.lst ys)) := ⟨tups_lst h, fun a zs e => by
  by_cases z : a = l
  · exact ⟨ys, by rw [z]; exact upd_same⟩
  · exact ⟨zs, by rw [upd_ne z]; exact e⟩⟩
theorem NoTup.kp {H H' : Hp} {x : V} (s : Kp H H') : NoTup H x → NoTup H' x
  | .non => .non
  | .int i => .int i
  | .bl b => .bl b
  | .str z => .str z
  | .lst h => by
    obtain ⟨ys, h2⟩ := s.2 _ _ h
    exact .lst h2
theorem NoStr.kp {H H' : Hp} {x : V} (s : Kp H H') (h : NoStr H x) : NoStr H' x := by
  cases h with
  | non => exact .non
  | int i => exact .int i
  | bl b => exact .bl b
  | tup h => exact .tup (s.1 _ _ h)
theorem BadName.kp {H H' : Hp} {x : V} (s : Kp H H') : BadName H x → BadName H' x
  | .str h b => .str h b
  | .no h => .no (h.kp s)
theorem BadWord.kp {H H' : Hp} {x : V} (s : Kp H H') : BadWord H x → BadWord H' x
  | .str h b => .str h b
  | .no h => .no (h.kp s)
theorem PairAt.kp {H H' : Hp} {x : V} {b : Bool} (s : Kp H H') (h : PairAt H x b) : PairAt H' x b := by
  cases h with
  | good h g o z => exact .good (s.1 _ _ h) g o z
  | no h => exact .no (h.kp s)
  | len h l => exact .len (s.1 _ _ h) l
  | name h b => exact .name (s.1 _ _ h) (b.kp s)
  | coef h g o => exact .coef (s.1 _ _ h) g o
  | flag h g => exact .flag (s.1 _ _ h) g
theorem PairsAt.kp {H H' : Hp} (s : Kp H H') : ∀ {xs : List V} {bs : List Bool}, PairsAt H xs bs → PairsAt H' xs bs
  | [], [], _ => trivial
  | _ :: _, _ :: _, ⟨h1, h2⟩ => ⟨h1.kp s, PairsAt.kp s h2⟩
  | [], _ :: _, h => h.elim
  | _ :: _, [], h => h.elim
theorem BadTerm.kp {H H' : Hp} {u : Addr} (s : Kp H H') (h : BadTerm H u) : BadTerm H' u := by
  obtain ⟨q, c, pa, bs, h1, h2, h3, h4⟩ := h
  exact ⟨q, c, pa, bs, s.1 _ _ h1, s.1 _ _ h2, h3.kp s, h4⟩
theorem NameAt.kp {H H' : Hp} {x : V} {b : Bool} (s : Kp H H') : NameAt H x b → NameAt H' x b
  | .good g => .good g
  | .bad b => .bad (b.kp s)
theorem NamesAt.kp {H H' : Hp} (s : Kp H H') : ∀ {xs : List V} {bs : List Bool}, NamesAt H xs bs → NamesAt H' xs bs
  | [], [], _ => trivial
  | _ :: _, _ :: _, ⟨h1, h2⟩ => ⟨h1.kp s, NamesAt.kp s h2⟩
  | [], _ :: _, h => h.elim
  | _ :: _, [], h => h.elim
theorem NmsAt.kp {H H' : Hp} {x : V} {b : Bool} (s : Kp H H') : NmsAt H x b → NmsAt H' x b
  | .no h => .no (h.kp s)
  | .tup h n l => .tup (s.1 _ _ h) (n.kp s) l
theorem BadNode.kp {H H' : Hp} {x : V} (s : Kp H H') (h : BadNode H x) : BadNode H' x := by
  cases h with
  | no h => exact .no (h.kp s)
  | nil h => exact .nil (s.1 _ _ h)
  | head h n => exact .head (s.1 _ _ h) (n.kp s)
  | kind h n => exact .kind (s.1 _ _ h) n
  | len h k n => exact .len (s.1 _ _ h) k n
  | cmp k h b => exact .cmp k (s.1 _ _ h) (b.kp s)
  | pow h b => exact .pow (s.1 _ _ h) (b.kp s)
  | qf k h b => exact .qf k (s.1 _ _ h) (b.kp s)
  | word h b => exact .word (s.1 _ _ h) (b.kp s)
  | call h g b => exact .call (s.1 _ _ h) g (b.kp s)
theorem FxAt.kp {H H' : Hp} {x : V} {t : Tr} (s : Kp H H') (h : FxAt H x t) : FxAt H' x t := by
  induction h with
  | leaf h g s' => exact .leaf (h.tups s.1) g s'
  | bad b => exact .bad (b.kp s)
  | not h p ih => exact .not (s.1 _ _ h) ih
  | bin k h p q i1 i2 => exact .bin k (s.1 _ _ h) i1 i2
  | qf k h g p ih => exact .qf k (s.1 _ _ h) g ih
theorem FxsAt.kp {H H' : Hp} (s : Kp H H') : ∀ {xs : List V} {ts : List Tr}, FxsAt H xs ts → FxsAt H' xs ts
  | [], [], _ => trivial
  | _ :: _, _ :: _, ⟨h1, h2⟩ => ⟨h1.kp s, FxsAt.kp s h2⟩
  | [], _ :: _, h => h.elim
  | _ :: _, [], h => h.elim
theorem PairsAt.append {H : Hp} : ∀ {as bs : List V} {xs ys : List Bool}, PairsAt H as xs → PairsAt H bs ys → PairsAt H (as ++ bs) (xs ++ ys)
  | [], _, [], _, _, h => h
  | _ :: _, _, _ :: _, _, ⟨h1, h2⟩, h => ⟨h1, PairsAt.append h2 h⟩
  | [], _, _ :: _, _, h, _ => h.elim
  | _ :: _, _, [], _, h, _ => h.elim
theorem PairsAt.drop {H : Hp} : ∀ (n : Nat) {as : List V} {xs : List Bool}, PairsAt H as xs → PairsAt H (as.drop n) (xs.drop n)
  | 0, _, _, h => h
  | n + 1, [], [], h => h
  | n + 1, _ :: _, _ :: _, ⟨_, h2⟩ => PairsAt.drop n h2
  | n + 1, [], _ :: _, h => h.elim
  | n + 1, _ :: _, [], h => h.elim
theorem PairsAt.take {H : Hp} : ∀ (n : Nat) {as : List V} {xs : List Bool}, PairsAt H as xs → PairsAt H (as.take n) (xs.take n)
  | 0, _, _, h => trivial
  | n + 1, [], [], h => h
  | n + 1, _ :: _, _ :: _, ⟨h1, h2⟩ => ⟨h1, PairsAt.take n h2⟩
  | n + 1, [], _ :: _, h => h.elim
  | n + 1, _ :: _, [], h => h.elim
end Dw

namespace Dw
open PySem PySem.Spec PyProof.Rows L2 SX
/-! a formula's nodes, first the formula, then its parts' from left to right -/
def preF : Fm → List Fm
  | .not a => .not a :: preF a
  | .bin k a b => .bin k a b :: (preF a ++ preF b)
  | .qf k z a => .qf k z a :: preF a
  | .pow z => [.pow z]
  | .word w z o => [.word w z o]
  | .cmp k ps c => [.cmp k ps c]
  | .call f zs => [.call f zs]
theorem preF_good : ∀ (f : Fm), f.Good → ∀ g ∈ preF f, g.Good
  | .not a, h, g, hm => by
    rcases List.mem_cons.mp hm with rfl | hm
    · exact h
    · exact preF_good a h g hm
  | .bin k a b, h, g, hm => by
    rcases List.mem_cons.mp hm with rfl | hm
    · exact h
    rcases List.mem_append.mp hm with hm | hm
    · exact preF_good a h.1 g hm
    · exact preF_good b h.2 g hm
  | .qf k z a, h, g, hm => by
    rcases List.mem_cons.mp hm with rfl | hm
    · exact h
    · exact preF_good a h.2 g hm
  | .pow z, h, g, hm => by rw [List.mem_singleton.mp hm]; exact h
  | .word w z o, h, g, hm => by rw [List.mem_singleton.mp hm]; exact h
  | .cmp k ps c, h, g, hm => by rw [List.mem_singleton.mp hm]; exact h
  | .call f zs, h, g, hm => by rw [List.mem_singleton.mp hm]; exact h
theorem preF_len : ∀ f : Fm, (preF f).length + 1 ≤ 2 ^ (f.dep + 1)
  | .not a => by
    have := preF_len a
    simp only [preF, List.length_cons, Fm.dep]
    rw [Nat.pow_succ]
    omega
  | .qf k z a => by
    have := preF_len a
    simp only [preF, List.length_cons, Fm.dep]
    rw [Nat.pow_succ]
    omega
  | .bin k a b => by
    have h1 := preF_len a
    have h2 := preF_len b
    simp only [preF, List.length_cons, List.length_append, Fm.dep]
    have h7 : 2 ^ (a.dep + 1) ≤ 2 ^ (max a.dep b.dep + 1) := Nat.pow_le_pow_right (by decide) (by omega)
    have h8 : 2 ^ (b.dep + 1) ≤ 2 ^ (max a.dep b.dep + 1) := Nat.pow_le_pow_right (by decide) (by omega)
    rw [Nat.pow_succ 2 (max a.dep b.dep + 1)]
    omega
  | .pow z => by simp [preF, Fm.dep]
  | .word w z o => by simp [preF, Fm.dep]
  | .cmp k ps c => by simp [preF, Fm.dep]
  | .call f zs => by simp [preF, Fm.dep]
/-- pairs of a node and a level -/
def NdsAt (H : Hp) : List Addr → List Fm → Prop
  | [], [] => True
  | e :: es, f :: fs => (∃ t l, H e = some (.tup [.ref t, .int l]) ∧ FmAt H t f) ∧ NdsAt H es fs
  | _, _ => False
theorem NdsAt.tups {H H' : Hp} (e : Tups H H') : ∀ {es : List Addr} {fs : List Fm}, NdsAt H es fs → NdsAt H' es fs
  | [], [], _ => trivial
  | _ :: _, _ :: _, ⟨⟨t, l, h1, h2⟩, h3⟩ => ⟨⟨t, l, e _ _ h1, h2.tups e⟩, NdsAt.tups e h3⟩
  | [], _ :: _, h => h.elim
  | _ :: _, [], h => h.elim
theorem NdsAt.len {H : Hp} : ∀ {es : List Addr} {fs : List Fm}, NdsAt H es fs → es.length = fs.length
  | [], [], _ => rfl
  | _ :: es, _ :: fs, ⟨_, h2⟩ => congrArg (· + 1) (NdsAt.len (es := es) (fs := fs) h2)
  | [], _ :: _, h => h.elim
  | _ :: _, [], h => h.elim
theorem NdsAt.append {H : Hp} : ∀ {as bs : List Addr} {xs ys : List Fm}, NdsAt H as xs → NdsAt H bs ys → NdsAt H (as ++ bs) (xs ++ ys)
  | [], _, [], _, _, h => h
  | _ :: _, _, _ :: _, _, ⟨h1, h2⟩, h => ⟨h1, NdsAt.append h2 h⟩
  | [], _, _ :: _, _, h, _ => h.elim
  | _ :: _, _, [], _, h, _ => h.elim
theorem NdsAt.at_ {H : Hp} : ∀ {es : List Addr} {fs : List Fm} {i : Nat} {e : Addr}, NdsAt H es fs → es[i]? = some e → ∃ f t l, fs[i]? = some f ∧ H e = some (.tup [.ref t, .int l]) ∧ FmAt H t f
  | e :: es, f :: fs, 0, _, ⟨⟨t, l, h1, h2⟩, _⟩, he => by cases he; exact ⟨f, t, l, rfl, h1, h2⟩
  | e :: es, f :: fs, i + 1, _, ⟨_, h2⟩, he => NdsAt.at_ (es := es) (fs := fs) (i := i) h2 he
  | [], [], _, _, _, he => by cases he
  | [], _ :: _, _, _, h, _ => h.elim
  | _ :: _, [], _, _, h, _ => h.elim
theorem NdsAt.split {H : Hp} : ∀ {as : List Addr} {a : Addr} {xs : List Fm}, NdsAt H (as ++ [a]) xs → ∃ ys x, xs = ys ++ [x] ∧ NdsAt H as ys ∧ ∃ t l, H a = some (.tup [.ref t, .int l]) ∧ FmAt H t x
  | [], a, [x], h => ⟨[], x, rfl, trivial, h.1⟩
  | [], a, x :: y :: r, h => h.2.elim
  | [], a, [], h => h.elim
  | b :: as, a, [], h => h.elim
  | b :: as, a, x :: xs, ⟨h1, h2⟩ => by
    obtain ⟨ys, y, e, h3, h4⟩ := NdsAt.split (as := as) (a := a) (xs := xs) h2
    exact ⟨x :: ys, y, by rw [e]; rfl, ⟨h1, h3⟩, h4⟩
/-- what is still to come from a stack -/
def preS (xs : List Fm) : List Fm := xs.reverse.flatMap preF
theorem preS_snoc (xs : List Fm) (f : Fm) : preS (xs ++ [f]) = preF f ++ preS xs := by
  unfold preS
  rw [List.reverse_append, List.flatMap_append]
  simp
theorem preS_app (xs ys : List Fm) : preS (xs ++ ys) = preS ys ++ preS xs := by
  unfold preS
  rw [List.reverse_append, List.flatMap_append]
theorem preS_len (xs : List Fm) : xs.length ≤ (preS xs).length := by
  unfold preS
  rw [List.length_flatMap]
  have : ∀ ys : List Fm, ys.length ≤ (ys.map fun f => (preF f).length).sum := fun ys => by
    induction ys with
    | nil => exact Nat.le_refl _
    | cons y ys ih =>
      have : 0 < (preF y).length := by cases y <;> simp [preF]
      rw [List.map_cons, List.sum_cons, List.length_cons]
      omega
  have h := this xs.reverse
  rw [List.length_reverse] at h
  exact h
end Dw

namespace Dw
open PySem PySem.Spec PyProof.Rows L2 SX
/-! all names of a formula -/
def allN : Fm → List Str
  | .pow z => [S z]
  | .word _ z _ => [S z]
  | .cmp _ ps _ => keys ps
  | .call _ zs => zs.map S
  | .not a => allN a
  | .bin _ a b => allN a ++ allN b
  | .qf _ z a => S z :: allN a
theorem nm1 {ls : List (List Nat)} {l : List Nat} (h : l ∈ ls) : ∀ z ∈ [S l], z ∈ ls.map S := fun z hz => by
  rw [List.mem_singleton.mp hz]
  exact List.mem_map.mpr ⟨l, h, rfl⟩
theorem nmK {ls : List (List Nat)} {ps : Prs} (h : ∀ x ∈ ps, x.1 ∈ ls.map S) : ∀ z ∈ keys ps, z ∈ ls.map S := fun z hz => by
  obtain ⟨x, hx, rfl⟩ := List.mem_map.mp hz
  exact h x hx
theorem nmQ {ls : List (List Nat)} {l : List Nat} {f : Fm} (h : l ∈ ls) (h2 : ∀ z ∈ allN f, z ∈ ls.map S) : ∀ z ∈ S l :: allN f, z ∈ ls.map S := fun z hz => by
  rcases List.mem_cons.mp hz with rfl | hz
  · exact List.mem_map.mpr ⟨l, h, rfl⟩
  · exact h2 z hz
theorem nmC {ls gs : List (List Nat)} (h : ∀ l ∈ gs, l ∈ ls) : ∀ z ∈ gs.map S, z ∈ ls.map S := fun z hz => by
  obtain ⟨x, hx, rfl⟩ := List.mem_map.mp hz
  exact List.mem_map.mpr ⟨x, h x hx, rfl⟩
theorem nmB {ls : List (List Nat)} {f g : Fm} (h1 : ∀ z ∈ allN f, z ∈ ls.map S) (h2 : ∀ z ∈ allN g, z ∈ ls.map S) : ∀ z ∈ allN f ++ allN g, z ∈ ls.map S := fun z hz => by
  rcases List.mem_append.mp hz with h | h
  · exact h1 z h
  · exact h2 z h
end Dw

namespace Dw
open PySem PySem.Spec PyProof.Rows L2 SX
theorem eqV_str (a b : Str) : eqV (.str a) (.str b) = decide (a = b) := by
  have e1 : a = S a.cps.toList := rfl
  have e2 : b = S b.cps.toList := rfl
  rw [e1, e2, eqV_S]
  by_cases h : a.cps.toList = b.cps.toList
  · rw [h]; simp
  · have h' : ¬ S a.cps.toList = S b.cps.toList := fun e => h (S_inj e)
    simp [h, h']
theorem inV_str (x : Str) : ∀ L : List Str, inV (.str x) (L.map V.str) = decide (x ∈ L)
  | [] => by simp [inV]
  | a :: L => by
    have ih := inV_str x L
    unfold inV at ih ⊢
    rw [List.map_cons, List.any_cons, ih, eqV_str]
    by_cases h : a = x
    · subst h; simp
    · have h' : ¬ x = a := fun e => h e.symm
      simp [h, h']
theorem flat_str (L : List Str) : (L.map V.str).all flatV = true := List.all_eq_true.mpr fun z hz => by
  obtain ⟨y, _, rfl⟩ := List.mem_map.mp hz
  rfl
theorem setL_append (xs ys : List Str) : setL (xs ++ ys) = ys.foldl (fun ks z => putT z ks) (setL xs) := by
  unfold setL
  rw [List.foldl_append]
theorem filter_take_add {α : Type} (p : α → Bool) (xs : List α) (i : Nat) (x : α) (h : xs[i]? = some x) : (xs.take (i + 1)).filter p = (xs.take i).filter p ++ (if p x = true then [x] else []) := by
  rw [List.take_add_one, h, List.filter_append]
  by_cases hp : p x = true <;> simp [hp]
theorem Tups.but {H H' : Hp} {p : Addr} {o : HO} (b : But p H H') (h : H p = some o) (n : ∀ xs, o ≠ .tup xs) : Tups H H' := fun a xs ha => b a _ (fun e => by
  rw [e, h] at ha
  exact n xs (Option.some.inj ha)) ha
theorem Same.but2 {H H1 H2 : Hp} {p : Addr} (s : Same H H1) (b : But p H1 H2) (h : H p = Option.none) : Same H H2 := fun a o ha => b a o (fun e => by rw [e, h] at ha; cases ha) (s a o ha)
end Dw

namespace Dw
open PySem PySem.Spec PyProof.Rows L2 SX
/-! free names, as the law lists them -/
def ownL : Fm → List Str
  | .cmp _ ps _ => keys ps
  | .pow z => [S z]
  | .word _ z _ => [S z]
  | .call _ zs => zs.map S
  | _ => []
def addU (xs ys : List Str) : List Str := ys.foldl (fun acc z => if z ∈ acc then acc else acc ++ [z]) xs
theorem addU_snoc (xs ys : List Str) (z : Str) : addU xs (ys ++ [z]) = if z ∈ addU xs ys then addU xs ys else addU xs ys ++ [z] := by
  unfold addU
  rw [List.foldl_append]
  rfl
theorem addU_mem (y : Str) : ∀ (ys xs : List Str), y ∈ addU xs ys ↔ y ∈ xs ∨ y ∈ ys
  | [], xs => by simp [addU]
  | z :: ys, xs => by
    show y ∈ addU (if z ∈ xs then xs else xs ++ [z]) ys ↔ _
    rw [addU_mem y ys]
    by_cases h : z ∈ xs
    · rw [if_pos h, List.mem_cons]
      constructor
      · rintro (h1 | h1)
        · exact .inl h1
        · exact .inr (.inr h1)
      · rintro (h1 | rfl | h1)
        · exact .inl h1
        · exact .inl h
        · exact .inr h1
    · rw [if_neg h, List.mem_append, List.mem_singleton, List.mem_cons, or_assoc]
theorem addU_nodup : ∀ (ys xs : List Str), xs.Nodup → (addU xs ys).Nodup
  | [], _, h => h
  | z :: ys, xs, h => by
    show (addU (if z ∈ xs then xs else xs ++ [z]) ys).Nodup
    refine addU_nodup ys _ ?_
    by_cases hz : z ∈ xs
    · rw [if_pos hz]; exact h
    · rw [if_neg hz, List.nodup_append]
      exact ⟨h, by simp, fun a ha b hb e => hz (by rw [List.mem_singleton] at hb; rw [← hb, ← e]; exact ha)⟩
theorem addU_len : ∀ (ys xs : List Str), (addU xs ys).length ≤ xs.length + ys.length
  | [], xs => Nat.le_refl _
  | z :: ys, xs => by
    show (addU (if z ∈ xs then xs else xs ++ [z]) ys).length ≤ _
    have := addU_len ys (if z ∈ xs then xs else xs ++ [z])
    have h2 : (if z ∈ xs then xs else xs ++ [z]).length ≤ xs.length + 1 := by
      split
      · omega
      · rw [List.length_append]; exact Nat.le_refl _
    rw [List.length_cons]
    omega
def fvL : Fm → List Str
  | .not a => addU [] (fvL a)
  | .bin _ a b => addU (addU [] (fvL a)) (fvL b)
  | .qf _ z a => (addU [] (fvL a)).filter fun y => decide (y ≠ S z)
  | f => addU [] (ownL f)
theorem fvL_nodup : ∀ f : Fm, (fvL f).Nodup
  | .not a => addU_nodup _ _ List.nodup_nil
  | .bin _ a b => addU_nodup _ _ (addU_nodup _ _ List.nodup_nil)
  | .qf _ z a => (addU_nodup _ _ List.nodup_nil).filter _
  | .pow z => addU_nodup _ _ List.nodup_nil
  | .word _ _ _ => addU_nodup _ _ List.nodup_nil
  | .cmp _ _ _ => addU_nodup _ _ List.nodup_nil
  | .call _ _ => addU_nodup _ _ List.nodup_nil
theorem fvL_all : ∀ f : Fm, ∀ z ∈ fvL f, z ∈ allN f
  | .not a, z, h => fvL_all a z (by simpa [fvL, addU_mem] using h)
  | .bin _ a b, z, h => by
    rcases (show z ∈ fvL a ∨ z ∈ fvL b by simpa [fvL, addU_mem] using h) with h | h
    · exact List.mem_append_left _ (fvL_all a z h)
    · exact List.mem_append_right _ (fvL_all b z h)
  | .qf _ y a, z, h => by
    have h1 : z ∈ fvL a := by
      have := (List.mem_filter.mp h).1
      simpa [addU_mem] using this
    exact List.mem_cons_of_mem _ (fvL_all a z h1)
  | .pow _, z, h => by simpa [fvL, addU_mem, ownL, allN] using h
  | .word _ _ _, z, h => by simpa [fvL, addU_mem, ownL, allN] using h
  | .cmp _ _ _, z, h => by simpa [fvL, addU_mem, ownL, allN] using h
  | .call _ _, z, h => by simpa [fvL, addU_mem, ownL, allN] using h
theorem nodup_leS : ∀ {a U : List Str}, a.Nodup → (∀ y ∈ a, y ∈ U) → a.length ≤ U.length
  | [], _, _, _ => Nat.zero_le _
  | x :: a, U, h, hs => by
    rw [List.nodup_cons] at h
    have hx := hs x List.mem_cons_self
    have h1 := nodup_leS (a := a) (U := U.erase x) h.2 fun y hy => by
      have hne : y ≠ x := fun e => h.1 (e ▸ hy)
      exact (List.mem_erase_of_ne hne).mpr (hs y (List.mem_cons_of_mem _ hy))
    rw [List.length_erase_of_mem hx] at h1
    have := List.length_pos_of_mem hx
    rw [List.length_cons]
    omega
theorem fvL_len (f : Fm) {U : List Str} (h : ∀ z ∈ allN f, z ∈ U) : (fvL f).length ≤ U.length := by
  exact nodup_leS (fvL_nodup f) fun z hz => h z (fvL_all f z hz)
end Dw

namespace Dw
open PySem PySem.Spec PyProof.Rows L2 SX
/-! books: definitions and words -/
structure Df where
  name : Str
  ps : List Str
  f : Fm
  t : Addr
  p : Addr
  q : Addr
def DfAt (H : Hp) (d : Df) : Prop := H d.t = some (.tup [.ref d.p, .ref d.q]) ∧ H d.p = some (.tup (d.ps.map V.str)) ∧ FmAt H d.q d.f
theorem DfAt.tups {H H' : Hp} {d : Df} (h : DfAt H d) (e : Tups H H') : DfAt H' d := ⟨e _ _ h.1, e _ _ h.2.1, h.2.2.tups e⟩
def kvD (ds : List Df) : List (Key × V) := ds.map fun d => (.inr d.name, .ref d.t)
def kvX (ws : List (Str × Addr)) : List (Key × V) := ws.map fun x => (.inr x.1, .ref x.2)
def bflds (D W : Addr) : List (Str × V) := putF "_words" (.ref W) (putF "_definitions" (.ref D) [])
theorem kdw : ¬ (("_definitions" : Str) = "_words") := by decide +kernel
theorem bf_d (D W : Addr) : (bflds D W).lookup ("_definitions" : Str) = some (.ref D) := by
  unfold bflds
  rw [lookup_putF, if_neg kdw, lookup_putF, if_pos rfl]
theorem bf_w (D W : Addr) : (bflds D W).lookup ("_words" : Str) = some (.ref W) := by
  unfold bflds
  rw [lookup_putF, if_pos rfl]
theorem bf_no (D W : Addr) {m : Str} (h1 : ¬ m = "_definitions") (h2 : ¬ m = "_words") : (bflds D W).lookup m = none := by
  unfold bflds
  rw [lookup_putF, if_neg h2, lookup_putF, if_neg h1]
  rfl
structure BkAt (CB : Addr) (H : Hp) (b D W : Addr) (ds : List Df) (ws : List (Str × Addr)) : Prop where
  ins : ∃ dx, H b = some (.ins CB dx (bflds D W))
  dd : H D = some (.dK (kvD ds))
  ww : H W = some (.dK (kvX ws))
  ne : D ≠ W
  df : ∀ d ∈ ds, DfAt H d
  nd : (ds.map (·.name)).Nodup
  nw : (ws.map (·.1)).Nodup
  ld : ds.length ≤ 100
  lw : ws.length ≤ 100
theorem BkAt.same {CB : Addr} {H H' : Hp} {b D W : Addr} {ds : List Df} {ws : List (Str × Addr)} (h : BkAt CB H b D W ds ws) (s : Same H H') : BkAt CB H' b D W ds ws :=
  ⟨h.ins.imp fun _ e => s _ _ e, s _ _ h.dd, s _ _ h.ww, h.ne, fun d hd => (h.df d hd).tups (Tups.same s), h.nd, h.nw, h.ld, h.lw⟩
theorem BkAt.but {CB : Addr} {H H' : Hp} {b D W x : Addr} {o : HO} {ds : List Df} {ws : List (Str × Addr)} (h : BkAt CB H b D W ds ws) (s : But x H H') (hx : H x = some o)
    (h1 : ∀ C dx fs, o ≠ .ins C dx fs) (h2 : ∀ xs, o ≠ .tup xs) (h3 : x ≠ D) (h4 : x ≠ W) : BkAt CB H' b D W ds ws :=
  ⟨h.ins.imp fun dx e => s _ _ (fun z => by rw [z, hx] at e; exact h1 _ _ _ (Option.some.inj e)) e, s _ _ h3.symm h.dd, s _ _ h4.symm h.ww, h.ne, fun d hd => (h.df d hd).tups (Tups.but s hx h2), h.nd, h.nw, h.ld, h.lw⟩
theorem BkAt.pool {CB : Addr} {H H' : Hp} {b D W p q : Addr} {ns : List Int} {ds : List Df} {ws : List (Str × Addr)} (h : BkAt CB H b D W ds ws) (s : But p H H') (P : Pool H p q ns) : BkAt CB H' b D W ds ws := by
  obtain ⟨_, _, x, k, hp, _⟩ := P
  exact h.but s hp (fun _ _ _ z => by cases z) (fun _ z => by cases z) (ne_of hp h.dd (by intro z; cases z)) (ne_of hp h.ww (by intro z; cases z))
def findD (ds : List Df) (n : Str) : Option Df := ds.find? fun d => decide (d.name = n)
def findW (ws : List (Str × Addr)) (n : Str) : Option (Str × Addr) := ws.find? fun d => decide (d.1 = n)
theorem valV_D (n : Str) : ∀ ds : List Df, valV (kvD ds) (.inr n) = (findD ds n).map fun d => V.ref d.t
  | [] => rfl
  | d :: ds => by
    have ih := valV_D n ds
    unfold kvD findD at ih ⊢
    rw [List.map_cons, List.find?_cons]
    by_cases e : d.name = n
    · rw [valV_pos (by rw [e]), decide_eq_true e]
      rfl
    · rw [valV_neg (fun z => e (Sum.inr.inj z)), decide_eq_false e, ih]
theorem valV_X (n : Str) : ∀ ws : List (Str × Addr), valV (kvX ws) (.inr n) = (findW ws n).map fun d => V.ref d.2
  | [] => rfl
  | d :: ws => by
    have ih := valV_X n ws
    unfold kvX findW at ih ⊢
    rw [List.map_cons, List.find?_cons]
    by_cases e : d.1 = n
    · rw [valV_pos (by rw [e]), decide_eq_true e]
      rfl
    · rw [valV_neg (fun z => e (Sum.inr.inj z)), decide_eq_false e, ih]
theorem findD_none {ds : List Df} {n : Str} : findD ds n = none ↔ n ∉ ds.map (·.name) := by
  unfold findD
  rw [List.find?_eq_none]
  simp only [decide_eq_true_eq, List.mem_map, not_exists, not_and]
theorem findW_none {ws : List (Str × Addr)} {n : Str} : findW ws n = none ↔ n ∉ ws.map (·.1) := by
  unfold findW
  rw [List.find?_eq_none]
  simp only [decide_eq_true_eq, List.mem_map, not_exists, not_and]
theorem findD_mem {ds : List Df} {n : Str} {d : Df} (h : findD ds n = some d) : d ∈ ds ∧ d.name = n := by
  unfold findD at h
  exact ⟨List.mem_of_find?_eq_some h, by simpa using List.find?_some h⟩
theorem findW_mem {ws : List (Str × Addr)} {n : Str} {d : Str × Addr} (h : findW ws n = some d) : d ∈ ws ∧ d.1 = n := by
  unfold findW at h
  exact ⟨List.mem_of_find?_eq_some h, by simpa using List.find?_some h⟩
theorem BkAt.getD {CB : Addr} {H : Hp} {b D W : Addr} {ds : List Df} {ws : List (Str × Addr)} (h : BkAt CB H b D W ds ws) (n : Str) : DGet H D (.str n) ((findD ds n).map fun d => V.ref d.t) := by
  rw [← valV_D]
  exact DGet.k (k := .inr n) h.dd
theorem BkAt.getW {CB : Addr} {H : Hp} {b D W : Addr} {ds : List Df} {ws : List (Str × Addr)} (h : BkAt CB H b D W ds ws) (n : Str) : DGet H W (.str n) ((findW ws n).map fun d => V.ref d.2) := by
  rw [← valV_X]
  exact DGet.k (k := .inr n) h.ww
theorem BkAt.putD {CB : Addr} {H : Hp} {b D W : Addr} {ds : List Df} {ws : List (Str × Addr)} (h : BkAt CB H b D W ds ws) (d : Df) (hn : findD ds d.name = none) : DPut H D (.str d.name) (.ref d.t) (upd H D (.dK (kvD (ds ++ [d])))) := by
  have hl := h.ld
  have := DPut.k (v := V.ref d.t) (k := .inr d.name) h.dd (by unfold kvD; rw [List.length_map, sizeLine_eq]; omega)
  rwa [putK_new _ (by rw [valV_D, hn]; rfl), show kvD ds ++ [(.inr d.name, V.ref d.t)] = kvD (ds ++ [d]) by unfold kvD; rw [List.map_append]; rfl] at this
theorem BkAt.putW {CB : Addr} {H : Hp} {b D W : Addr} {ds : List Df} {ws : List (Str × Addr)} (h : BkAt CB H b D W ds ws) (x : Str × Addr) (hn : findW ws x.1 = none) : DPut H W (.str x.1) (.ref x.2) (upd H W (.dK (kvX (ws ++ [x])))) := by
  have hl := h.lw
  have := DPut.k (v := V.ref x.2) (k := .inr x.1) h.ww (by unfold kvX; rw [List.length_map, sizeLine_eq]; omega)
  rwa [putK_new _ (by rw [valV_X, hn]; rfl), show kvX ws ++ [(.inr x.1, V.ref x.2)] = kvX (ws ++ [x]) by unfold kvX; rw [List.map_append]; rfl] at this
theorem BkAt.addD {CB : Addr} {H : Hp} {b D W : Addr} {ds : List Df} {ws : List (Str × Addr)} (h : BkAt CB H b D W ds ws) {d : Df} (hd : DfAt H d) (hn : findD ds d.name = none) (hl : ds.length < 100) : BkAt CB (upd H D (.dK (kvD (ds ++ [d])))) b D W (ds ++ [d]) ws := by
  have tt : Tups H (upd H D (.dK (kvD (ds ++ [d])))) := Tups.but But.upd h.dd (fun _ z => by cases z)
  refine ⟨h.ins.imp fun dx e => ?_, upd_same, ?_, h.ne, fun d' hd' => ?_, ?_, h.nw, ?_, h.lw⟩
  · rw [upd_ne (ne_of e h.dd (by intro z; cases z))]; exact e
  · rw [upd_ne h.ne.symm]; exact h.ww
  · rcases List.mem_append.mp hd' with z | z
    · exact (h.df d' z).tups tt
    · rw [List.mem_singleton.mp z]; exact hd.tups tt
  · rw [List.map_append, List.nodup_append]
    refine ⟨h.nd, by simp, fun a ha b hb e => ?_⟩
    rw [List.map_cons, List.map_nil, List.mem_singleton] at hb
    exact findD_none.mp hn (by rw [← hb, ← e]; exact ha)
  · rw [List.length_append]; show _ + 1 ≤ _; omega
theorem BkAt.addW {CB : Addr} {H : Hp} {b D W : Addr} {ds : List Df} {ws : List (Str × Addr)} (h : BkAt CB H b D W ds ws) (x : Str × Addr) (hn : findW ws x.1 = none) (hl : ws.length < 100) : BkAt CB (upd H W (.dK (kvX (ws ++ [x])))) b D W ds (ws ++ [x]) := by
  have tt : Tups H (upd H W (.dK (kvX (ws ++ [x])))) := Tups.but But.upd h.ww (fun _ z => by cases z)
  refine ⟨h.ins.imp fun dx e => ?_, ?_, upd_same, h.ne, fun d' hd' => (h.df d' hd').tups tt, h.nd, ?_, h.ld, ?_⟩
  · rw [upd_ne (ne_of e h.ww (by intro z; cases z))]; exact e
  · rw [upd_ne h.ne]; exact h.dd
  · rw [List.map_append, List.nodup_append]
    refine ⟨h.nw, by simp, fun a ha b hb e => ?_⟩
    rw [List.map_cons, List.map_nil, List.mem_singleton] at hb
    exact findW_none.mp hn (by rw [← hb, ← e]; exact ha)
  · rw [List.length_append]; show _ + 1 ≤ _; omega
/-! faults -/
inductive Flt
  | unk (n : Str)
  | cla (n : Str)
  | mis
def FRes (CCl CUn CMis : Addr) (H : Hp) (E : XK) (Qn : Prop) : Option Flt → Prop
  | none => Qn
  | some (.unk n) => Rz CUn "name" (.str n) H E
  | some (.cla n) => Rz CCl "name" (.str n) H E
  | some .mis => Rz CMis "why" (.str "count") H E
theorem FRes.same {CCl CUn CMis : Addr} {H H' : Hp} {E : XK} {Q1 Q2 : Prop} {o : Flt} (h : FRes CCl CUn CMis H E Q1 (some o)) (s : Same H H') : FRes CCl CUn CMis H' E Q2 (some o) := by
  cases o with
  | unk n => exact Rz.same h s
  | cla n => exact Rz.same h s
  | mis => exact Rz.same h s
def nfault (ds : List Df) (ws : List (Str × Addr)) : Fm → Option Flt
  | .word x _ _ => if (findW ws (S x)).isSome = true then none else some (.unk (S x))
  | .call g zs => match findD ds (S g) with
    | none => some (.unk (S g))
    | some d => if d.ps.length = zs.length then none else some .mis
  | _ => none
def faultF (ds : List Df) (ws : List (Str × Addr)) (f : Fm) : Option Flt := (preF f).findSome? (nfault ds ws)
theorem fs_take {α β : Type} {g : α → Option β} {L : List α} {i : Nat} {x : α} (hx : L[i]? = some x) (h : (L.take i).findSome? g = none) :
    (∀ y, g x = some y → L.findSome? g = some y) ∧ (g x = none → (L.take (i + 1)).findSome? g = none) := by
  constructor
  · intro y hy
    have e : L = L.take i ++ x :: L.drop (i + 1) := by
      have hi := (List.getElem?_eq_some_iff.mp hx)
      obtain ⟨hi, hxi⟩ := hi
      rw [← hxi, List.getElem_cons_drop, List.take_append_drop]
    rw [e, List.findSome?_append, h, List.findSome?_cons, hy]
    rfl
  · intro hn
    rw [List.take_add_one, hx, List.findSome?_append, h]
    simp [hn]
def dupAt (ps : List Str) (k : Nat) : Option Str := match ps[k]? with
  | none => none
  | some x => if x ∈ ps.take k then some x else none
def dupF (ps : List Str) : Option Str := (List.range ps.length).findSome? (dupAt ps)
end Dw

namespace PySem
set_option maxHeartbeats 8000000 in
/-- the two cells that enumerate of any beginning thing makes -/
theorem dwMeetsEnum {x : Value} {ob : Obj} {St0 : Heap → Prop} (bg : Begins x ob St0) :
    Meets (Builtin.«enumerate.__new__»
        ⟨[.type "enumerate", x], []⟩)
      (fun _ R s => St0 s.heap ∧ R (.ok (.ret (.ref (s.heap.push ob).objs.size)))
        { s with heap := (s.heap.push ob).push { cls := .type "enumerate", data := .fields #[.none, .bool false, .ref s.heap.objs.size, rawInt 0, .none, .none] } }) := by
  refine .of_wp fun prog w A R s h => ?_
  obtain ⟨hp, g, d, tk, os⟩ := s
  obtain ⟨st, h⟩ := h
  have he := sub_enumerate
  have hb : ∀ {B : Around} {E : Value → Shared → Prop} {Q : Value → Shared → Prop},
      Q (.ref hp.objs.size) ⟨hp.push ob, g, d, tk, os⟩ →
      wpAny (model prog w) B (pyIter x) Q E ⟨hp, g, d, tk, os⟩ :=
    fun q => bg.iter prog w _ _ ⟨hp, g, d, tk, os⟩ _ st q
  wp_walk using hb
  refine wpAny_stack_any fun stk => wpAny_pure ?_
  split
  · rename_i k _ _ _ _ _
    cases (k == Value.type "enumerate") <;>
    · wp_walk using hb
      exact ⟨_, rfl, h⟩
  · wp_walk using hb
    exact ⟨_, rfl, h⟩
/-- enumerate(v) -/
theorem dwCallEnum {prog : Program} {w : World} {A : Around} {E : Value → Shared → Prop} {s : Shared}
    {x : Value} {ob : Obj} {St0 : Heap → Prop} {Q : Value → Shared → Prop} (bg : Begins x ob St0) (st : St0 s.heap)
    (h : ∀ h2, IsEnum h2 (s.heap.objs.size + 1) s.heap.objs.size 0 .none →
      h2.get? s.heap.objs.size = some ob →
      (∀ b o, s.heap.get? b = some o → h2.get? b = some o) →
      Q (.ref (s.heap.objs.size + 1)) { s with heap := h2 }) :
    wpAny (model prog w) A (call (.type "enumerate") [x]) Q E s := by
  have hz : (s.heap.push ob).objs.size = s.heap.objs.size + 1 := Heap.size_push ..
  refine callType_new F.called_enumerate (by decide)
    (F.typeCall_enumerate_1 _) (F.newCall_enumerate_1 _)
    (fun obj => F.args_object_init_2 obj _) F.entry_enumerate_new
    (dwMeetsEnum bg) ⟨st, ?_⟩
  show _ ∧ _
  rw [hz]
  have he : IsEnum ((s.heap.push ob).push { cls := .type "enumerate"
                                            data := .fields #[.none, .bool false, .ref s.heap.objs.size, rawInt 0, .none, .none] })
      (s.heap.objs.size + 1) s.heap.objs.size 0 .none := by
    have q := Heap.get?_push_size (s.heap.push ob)
      (o := { cls := .type "enumerate"
              data := .fields #[.none, .bool false, .ref s.heap.objs.size, rawInt 0, .none, .none] }) rfl
    rwa [hz] at q
  exact ⟨⟨_, he, rfl⟩, h _ he (Heap.get?_push_of_some _ (Heap.get?_push_size _ bg.free))
    fun b o y => Heap.get?_push_of_some _ (Heap.get?_push_of_some _ y)⟩
end PySem
namespace Dw
open PySem PySem.Spec PyProof.Rows L2 SX
/-! enumerate over a tuple -/
def IteT (K : PySem.W.Frag) (a : Addr) : It where
  go := fun i H => ∃ (xs : List V) (x : V), SqT K H a xs ∧ xs[i]? = some x
  yld := fun i H v H' => ∃ T x, v = .ref T ∧ H T = none ∧
    H' = upd H T (.tup [.int (i : Nat), x]) ∧ ∀ xs, SqT K H a xs → xs[i]? = some x
  stop := fun i H => ∃ xs : List V, SqT K H a xs ∧ xs.length ≤ i
theorem turn_enumT {P : Program} {w : World} {K : PySem.W.Frag} {elts : List Expr} {kk : Nat} {tpos : Pos} (a e it : Addr) :
    Turn P w K (.Tuple elts kk tpos) (IteT K a) [e, it] e
      (fun i h => (∃ old, IsEnum h e it ((i : Nat) : Int) old) ∧ h.IsTupleIter it a i ∧ e ≠ it ∧ a ≠ it ∧ a ≠ e) where
  mem := by simp
  obj := fun i h st b hb => by
    obtain ⟨⟨old, he⟩, ⟨o, ho, hc, hd⟩, _⟩ := st
    rcases (show b = e ∨ b = it by simpa using hb) with z | z
    · rw [z]; exact ⟨_, he, fun v q => nomatch q⟩
    · rw [z]; exact ⟨o, ho, fun v q => by rw [hd] at q; cases q⟩
  keep := fun i h h' st k => by
    obtain ⟨⟨old, he⟩, hi, hne⟩ := st
    exact ⟨⟨old, k e (by simp) _ he⟩, hi.at fun o q => k it (by simp) o q, hne⟩
  item := by
    intro X hP hw hK hc i pins s σ H E I hf st hg
    subst hP hw hK
    obtain ⟨⟨old, he⟩, hit, hne, ha1, ha2⟩ := st
    obtain ⟨xs, x, hq, hx⟩ := hg
    obtain ⟨its, rv, p, hz⟩ := I.tuple hq
    obtain ⟨u, hu, ru⟩ := rv.get hx
    have hel : e < s.heap.objs.size := Heap.lt_size he
    have hil : it < s.heap.objs.size := by obtain ⟨_, q, _⟩ := hit; exact Heap.lt_size q
    have dr := Draws.tuple (prog := X.prog) (w := X.w) (A := X.A.in1) (I.ok.hd hc) it a ha1 its.toArray
    have hlt : i < its.toArray.size := by
      rw [List.size_toArray]
      exact (List.getElem?_eq_some_iff.mp hu).1
    refine wpAny_pyNext_enum_itemD dr he ⟨hit, p⟩ hlt hne (by simp [hne, ha2.symm]) fun y h1 tk hy ho st1 hT hsz hk => ?_
    have ey : y = u := by
      have : its.toArray[i]? = some y := hy
      rw [show its.toArray[i]? = its[i]? by simp, hu] at this
      exact (Option.some.inj this).symm
    subst ey
    refine ⟨_, rfl, wpAny_letOwnedTupleGo_enum (s := { s with heap := h1, toks := tk + 1 }) ho fun h2 he2 sb => ?_⟩
    have hT2 : h2.get? s.heap.objs.size = some { cls := .type "tuple", data := .seq #[.int i tk, y] } := (sb.2 _ (Nat.ne_of_gt hel)).trans hT
    have new : ObjOk X.prog X.w (upd H s.heap.objs.size (.tup [.int (i : Nat), x])) h2 s.heap.objs.size (.tup [.int (i : Nat), x]) :=
      ⟨by show 2 ≤ sizeLine; decide, [.int i tk, y], .cons ⟨_, rfl⟩ (.cons ru .nil), ⟨_, hT2, rfl, _, rfl⟩⟩
    have I1 : Inv X pins σ (upd H s.heap.objs.size (.tup [.int (i : Nat), x])) { s with heap := h2, toks := tk + 1 } :=
      I.turnedNew (ch := [e, it]) (fun b ob hb q => (sb.2 b (fun z => hb (by simp [z]))).trans (hk b ob (fun z => hb (by simp [z])) (fun z => hb (by simp [z])) q)) hf (Nat.le_refl _) new
    refine ⟨.ref s.heap.objs.size, _, I1, rfl, ⟨_, x, rfl, I.hok.fresh (Nat.le_refl _), rfl, fun ys hy => by rw [I.tuple_inj hy hq]; exact hx⟩,
      ⟨⟨y, ?_⟩, st1.1.at fun o q => (sb.2 it (Ne.symm hne)).trans q, hne, ha1, ha2⟩, fun b hb => ?_⟩
    · rw [show ((i + 1 : Nat) : Int) = (i : Int) + 1 by omega]
      exact he2
    · have hb' : b < s.heap.objs.size := by
        rcases (show b = e ∨ b = it by simpa using hb) with z | z
        · rw [z]; exact hel
        · rw [z]; exact hil
      rw [upd_ne (Nat.ne_of_lt hb')]
      exact (hf b hb).1
  done := by
    intro X hP hw hK hc i pins s σ H E I hf st hg
    subst hP hw hK
    obtain ⟨⟨old, he⟩, hit, hne, ha1, ha2⟩ := st
    obtain ⟨xs, hq, hx⟩ := hg
    obtain ⟨its, rv, p, hz⟩ := I.tuple hq
    obtain ⟨f0, f1, f2, f3, f4, f5⟩ := hf it (by simp)
    have hl := rv.length
    have hno : its.toArray[i]? = none := by simp; omega
    have dr : Draws X.prog X.w X.A.in1 it [it, a] i (fun _ _ => True) (fun j h => (h.IsTupleIter it a j ∧ h.IsTuple a its.toArray) ∧ j = i) :=
      { live := fun _ _ st => let ⟨o, ho, _⟩ := st.1.1; ⟨o, ho⟩
        frame := fun _ _ _ st hk => ⟨⟨st.1.1.at fun o e => hk it (by simp) o e, st.1.2.at fun o e => hk a (by simp) o e⟩, st.2⟩
        item := fun j s Q E hi st hQ => absurd st.2 (by omega)
        done := fun s Q E st hE => wpAny_nextOf_tuple_end (I.ok.hd hc) st.1.1 st.1.2 hno hE }
    exact wpAny_pyNext_enum_endD dr he ⟨⟨hit, p⟩, rfl⟩ fun h2 eb => ⟨rfl, I.turned (t' := s.toks) (fun b o hb q => eb b o hb q) f0 f1 f3 f4 f5⟩
  self := fun A i s Q E st h => by
    obtain ⟨⟨_, he⟩, _⟩ := st
    exact wpAny_pyIter_enum he h
def iEnumT (K : PySem.W.Frag) (ta : TA) : TI := fun σ H R => ta σ H fun vs H1 =>
  ∃ a xs, vs = [.ref a] ∧ SqT K H1 a xs ∧ R (IteT K a) H1
theorem piET {X : Cx} (K : PySem.W.Frag) {e : Expr} {ta : TA} {p pos tpos : Pos} {elts : List Expr} {kk : Nat} (hg : Gl X "enumerate") (hm : X.mg "enumerate" = none)
    (ha : PA X [e] ta) (hs : starEach [e] X.env = [(false, eval e X.env)] := by rfl) (hK : X.K = K := by rfl) :
    PI X (.Tuple elts kk tpos) (.Call (.Name "enumerate" p) [e] [] pos) (iEnumT K ta) := by
  subst hK
  refine ⟨fun pins s σ H R I h => Call_ (ld_blt I hg hm boot_enumerate ?_)⟩
  refine PyProof.Rows.callWith_type1 (thn (ha.run pos pins s σ H _ I h) fun us s1 ⟨vs, H1, I1, r1, q1⟩ => ?_) hs rfl
  obtain ⟨a, xs, ex, hq, q⟩ := q1
  subst ex
  cases r1 with
  | cons r rr =>
    cases rr
    cases r
    obtain ⟨its, rv, pt, hz⟩ := I1.tuple hq
    refine dwCallEnum (begins_tuple a its.toArray) pt fun h2 he hit hk => wpAny_pyIter_enum he ?_
    have hal : a < s1.heap.objs.size := by obtain ⟨_, q, _⟩ := pt; exact Heap.lt_size q
    refine ⟨s1.heap.objs.size + 1, [s1.heap.objs.size + 1, s1.heap.objs.size], _, _, H1, rfl, I1.kept (t' := s1.toks) hk,
      turn_enumT a (s1.heap.objs.size + 1) s1.heap.objs.size, ⟨⟨.none, he⟩, ⟨_, hit, rfl, rfl⟩, Nat.succ_ne_self _, Nat.ne_of_lt hal, Nat.ne_of_lt (Nat.lt_succ_of_lt hal)⟩, fun b hb => ?_, q⟩
    have hle : s1.heap.objs.size ≤ b := by
      rcases (show b = s1.heap.objs.size + 1 ∨ b = s1.heap.objs.size by simpa using hb) with z | z
      · rw [z]; exact Nat.le_succ _
      · rw [z]; exact Nat.le_refl _
    exact I1.fpOk hle (I1.hok.fresh hle)
theorem walk_enumT {K : PySem.W.Frag} {a : Addr} {xs : List V} : Walk (IteT K a) xs.length (fun H => SqT K H a xs) (YPair (fun i => some (.int (i : Nat))) (fun i => xs[i]?)) := by
  refine ⟨fun i _ hi q => ⟨xs, xs[i], q, by simp [hi]⟩, fun _ q => ⟨xs, q, Nat.le_refl _⟩, fun i H v H' _ q y => ?_⟩
  obtain ⟨T, x, h1, h2, h3, h4⟩ := y
  exact ⟨T, _, x, h1, h2, h3, rfl, h4 xs q⟩
theorem for_enumTN {K : PySem.W.Frag} {a : Addr} {xs : List V} {g : TG} {tb : TS} {D : Ends} {σ : L2.St} {H : Hp} (Pv : Nat → L2.St → Hp → Prop) (h0 : Pv 0 σ H) (hl : ∀ i σ H, i ≤ xs.length → Pv i σ H → SqT K H a xs)
    (hs : ∀ i x T σ H (N : L2.St → Hp → Prop), xs[i]? = some x → Pv i σ H → H T = none → (∀ σ' H', Pv (i + 1) σ' H' → N σ' H') → g (.ref T) σ (upd H T (.tup [.int (i : Nat), x])) fun σ2 H2 => tb { D with nx := N, ct := N, bk := D.nx } σ2 H2) (hd : ∀ σ H, Pv xs.length σ H → D.nx σ H) :
    ForJ (IteT K a) g tb D σ H := for_itN walk_enumT Pv h0 hl (fun i v σ H H' N hi p y hN => by
      obtain ⟨T, z, x, rfl, hT, rfl, e1, e2⟩ := y
      cases e1
      exact hs i x T σ H N e2 p hT hN) hd
end Dw

namespace Dw
open PySem PySem.Spec PyProof.Rows L2
/-! try whose first clauses take every exception that comes: the clauses behind them are of any make -/
def wNamS (K : PySem.W.Frag) (D : Ends) : List Clause → WX
  | [] => fun _ _ _ _ => False
  | (c, i, ts) :: rest => fun cls d σ H => ∃ b, PySem.W.exmOne K cls c = some b ∧
      (b = true → ∀ a, H a = none → ts a cls d (unb i D) (σ.set i (some (.ref a))) H) ∧ (b = false → wNamS K D rest cls d σ H)
inductive NamS (X : Cx) : List ExceptHandler → List Clause → Prop
  | stop {hs : List ExceptHandler} : NamS X hs []
  | more {x n : Str} {c : Value} {i : Nat} {ts : Addr → Value → Option Addr → TS} {st : Stmt} {sts : List Stmt} {p p' : Pos} {hs : List ExceptHandler} {l : List Clause}
      (nm : Names X x c) (at_i : X.N[i]? = some n) (loc : X.env.kindOf n = some .local)
      (su : ∀ (a : Addr) (oe : Obj) (cls : Value) (d : Option Addr) (pn : List (Addr × Obj)), Zc cls d oe → (∃ vs, oe.data = .fields vs) → PSs (X.suite a ((a, oe) :: pn)) (st :: sts) (ts a cls d))
      (rest : NamS X hs l) : NamS X (.ExceptHandler (some (.Name x p)) (some n) (st :: sts) p' :: hs) ((c, i, ts) :: l)
section
variable {X : Cx} {D : Ends}
theorem nams_run {pins : List (Addr × Obj)} {σ : L2.St} {H : Hp} {a : Addr} {cls : Value} {d : Option Addr} {B : Heap} {sI s' : Shared} {h : Heap}
    (hst : X.stack = X.env :: X.outer) (hfm : X.env.frame = some X.env.locals) (hN : X.N.Nodup) (ok : X.Ok)
    (G : Got X pins σ H a cls d B sI s' h) : ∀ {hs : List ExceptHandler} {l : List Clause}, NamS X hs l → wNamS X.K D l cls d σ H →
    wpAny (model X.prog X.w) X.A (handleBy (.ref a) X.env hs) (SP X pins D) X.xe { s' with heap := h } := by
  intro hs l nmd
  have J3 : Inv X pins σ H { s' with heap := h } := G.J.landed G.nb G.fl.1 G.up G.os G.ag
  induction nmd with
  | stop =>
    intro w
    exact w.elim
  | @more x n c i ts st sts p p' hs2 l2 nm at_i loc su rest ih =>
    rintro ⟨b, hb, yes, no⟩
    obtain ⟨oe, vs, he, hz, hd⟩ := G.fl.there
    have S3 := J3.suite he hd G.na G.nL G.nF
    have typ : PySem.W.Looks (model X.prog X.w) h (typeOf (.ref a)) cls := fun A Q E s k q => wpAny_typeOf_ref (k _ _ he) (by rw [hz.1]; exact q)
    have look := PySem.W.exm_one (M := model X.prog X.w) J3.kIn typ hb
    refine wpAny_handleBy_cons (codeAny_handlers_test ?_) (by intro q; cases q)
    have name : ∀ {Q : Value → Shared → Prop} {E : Value → Shared → Prop}, Q c { s' with heap := h } →
        wpAny (model X.prog X.w) (X.A.mark (some (.ref a))) (eval (.Name x p) X.env) Q E { s' with heap := h } := by
      intro Q E q
      obtain ⟨g1, g2, g3 | ⟨g3, g4, g5⟩⟩ := nm
      · exact ld_glob (X := X.suite a ((a, oe) :: (X.pn ++ pins))) S3 g1 g3 q g2
      · exact ld_blt (X := X.suite a ((a, oe) :: (X.pn ++ pins))) S3 g1 g3 g4 q g5 g2
    refine name (look.here ?_)
    cases b with
    | false =>
      show wpAny _ X.A (handleBy (.ref a) X.env hs2) _ _ _
      exact ih (no rfl)
    | true =>
      refine codeAny_handlers_suite_as (HandSPX.lands_againZ G.fl fun h4 fl4 up4 => ?_)
      have J4 : Inv X pins σ H { s' with heap := h4 } := G.J.landed G.nb fl4.1 (G.up.trans up4) G.os G.ag
      obtain ⟨oe4, vs4, he4, hz4, hd4⟩ := fl4.there
      have S4 := J4.suite he4 hd4 G.na G.nL G.nF
      refine store_ok (X := X.suite a ((a, oe4) :: (X.pn ++ pins))) (v := .ref a) S4 hN at_i (.inl loc) rfl (fun s5 S5 => ?_) (.inr loc)
      refine wpAny_mono ((su a oe4 cls d (X.pn ++ pins) hz4 ⟨_, hd4⟩).run [] s5 _ H (unb i D) S5 (yes rfl a G.na)) (fun f s6 done => ?_) (fun _ _ z => False.elim z)
      have behind : ∀ {σ6 : L2.St} {H6 : Hp} {Q : Shared → Prop}, Inv (X.suite a ((a, oe4) :: (X.pn ++ pins))) [] σ6 H6 s6 → (∀ s7, Inv X pins (σ6.set i none) H6 s7 → Q s7) →
          wpAny (model X.prog X.w) X.A (do bindName X.env n .none; unbindBehindTheSuite X.env n p') (fun _ s7 => Q s7) X.xe s6 :=
        fun {σ6 H6 Q} S6 hq => gone_ok (S6.unsuite ok) hN at_i loc hq
      cases f with
      | ret u => obtain ⟨v6, σ6, H6, S6, r6, q6⟩ := done; exact behind S6 fun s7 J7 => ⟨_, _, _, J7, r6, q6⟩
      | next => obtain ⟨σ6, H6, S6, q6⟩ := done; exact behind S6 fun s7 J7 => ⟨_, _, J7, q6⟩
      | brk => obtain ⟨σ6, H6, S6, q6⟩ := done; exact behind S6 fun s7 J7 => ⟨_, _, J7, q6⟩
      | cont => obtain ⟨σ6, H6, S6, q6⟩ := done; exact behind S6 fun s7 J7 => ⟨_, _, J7, q6⟩
variable {body : List Stmt} {hd0 : ExceptHandler} {hds : List ExceptHandler} {l : List Clause} {pos : Pos} {tb : WX → TS}
theorem ps_try_nams (hst : X.stack = X.env :: X.outer) (hfm : X.env.frame = some X.env.locals) (hN : X.N.Nodup)
    (hb : ∀ (W : WX) (pn : List (Addr × Obj)) (xe : Value → Shared → Prop), Takes (X.tr pn xe) W → PassesOwn (model X.prog X.w) X.A X.env xe → PSs (X.tr pn xe) body (tb W))
    (hh : NamS X (hd0 :: hds) l) : PS X (.Try body (hd0 :: hds) [] [] pos) (fun D σ H => tb (wNamS X.K D l) D σ H) := by
  refine ⟨fun pins s σ H D I q0 => wpAny_Try_except ?_⟩
  have ok := I.ok
  have hfr : X.A.frames = some (X.env :: X.outer) := by rw [ok.frames, hst]
  let xe : Value → Shared → Prop := fun e s₁ => wpAny (model X.prog X.w) X.A (noteFrame e X.env)
    (fun _ s₂ => wpAny (model X.prog X.w) X.A (setFlight e none) (fun _ s₃ => wpAny (model X.prog X.w) X.A (handleBy e X.env (hd0 :: hds)) (SP X pins D) X.xe s₃) X.xe s₂) X.xe s₁
  have takes : Takes (X.tr (X.pn ++ pins) xe) (wNamS X.K D l) := by
    rintro u s' ⟨a, B, sI, pins', σ', H', cls, d, rfl, J', nb, up, sky, na, os, ag, w⟩
    have J : Inv X pins σ' H' sI := J'.ofTry ok
    have sky' : Sky B (X.env :: X.outer) a (Zc cls d) X.env.locals s'.heap := by rw [← hst]; exact sky
    show wpAny (model X.prog X.w) X.A (noteFrame (.ref a) X.env) _ _ _
    refine Sky.land Zc.steady hfr hfm sky' fun h3 fl3 up3 => ?_
    obtain ⟨oe3, vs3, he3, _, hd3⟩ := fl3.there
    have far : a ∉ frs (X.env :: X.outer) := fun hm => by
      obtain ⟨_, o', e', hnf⟩ := fl3.2.2.1.mem hm
      rw [he3] at e'
      cases e'
      exact hnf _ hd3
    refine nams_run hst hfm hN ok ⟨J, nb, up.trans up3, fl3, na, os, ag, fun z => ?_, fun hm => ?_⟩ hh w
    · exact far (List.mem_filterMap.mpr ⟨X.env, List.mem_cons_self, by rw [hfm, z]⟩)
    · obtain ⟨e, he, q⟩ := List.mem_filterMap.mp hm
      exact far (List.mem_filterMap.mpr ⟨e, List.mem_cons_of_mem _ he, q⟩)
  refine wpAny_mono ((hb _ (X.pn ++ pins) xe takes PassesOwn.looking).run [] s σ H D (I.toTry _) q0) (fun f s1 done => ?_) (fun _ _ z => z)
  cases f with
  | ret u => obtain ⟨v, σ', H', J', r, q⟩ := done; exact ⟨v, σ', H', J'.ofTry ok, r, q⟩
  | next => obtain ⟨σ', H', J', q⟩ := done; exact wpAny_execs_nil ⟨σ', H', J'.ofTry ok, q⟩
  | brk => obtain ⟨σ', H', J', q⟩ := done; exact ⟨σ', H', J'.ofTry ok, q⟩
  | cont => obtain ⟨σ', H', J', q⟩ := done; exact ⟨σ', H', J'.ofTry ok, q⟩
end
end Dw

namespace Dw
open PySem PySem.Spec PyProof.Rows L2 SX
/-- a class called with nothing -/
theorem pe_mk0 {X : Cx} {k j : Nat} {C : Addr} {x : Str} {sp : Sp} {p pos : Pos} (c : C8.Mak X.prog X.w X.K X.mg X.base k x C sp []) (hr : Room j X.A) (hk : k + 1 ≤ j) (hg : Gl X x)
    (hdb : (x == ("__debug__" : Str)) = false := by decide) : PE X (.Call (.Name x p) [] [] pos) (tMake C sp [] C8.E0 tNil) := by
  obtain ⟨f, fd, ps, ds, M, F, hm, b, d⟩ := c.ex
  exact pe_make0 M F (hr.mono hk) hg hm b d C8.pass0 hdb
end Dw

namespace K08
open PySem PySem.Spec PyProof.Rows L2 SX Dw
def topS (i : Nat) : Stmt := PySem.Challenge.pw_digitwise_k08_book_refusals.main.body.getD i (.Pass ⟨0, 0, 0, 0⟩)
abbrev s__wall : Stmt := topS 0
abbrev N__wall : List Str := ["k"]
theorem sc__wall : FnScope N__wall ["k"] (C8.fnScope s__wall) := C8.fnScope_by (by decide +kernel)
abbrev s_is_output : Stmt := topS 13
abbrev N_is_output : List Str := ["value"]
theorem sc_is_output : FnScope N_is_output ["value"] (C8.fnScope s_is_output) := C8.fnScope_by (by decide +kernel)
abbrev s_parts : Stmt := topS 14
abbrev N_parts : List Str := ["formula", "kind"]
theorem sc_parts : FnScope N_parts ["formula"] (C8.fnScope s_parts) := C8.fnScope_by (by decide +kernel)
abbrev s_own_names : Stmt := topS 15
abbrev N_own_names : List Str := ["formula", "kind", "pair"]
theorem sc_own_names : FnScope N_own_names ["formula"] (C8.fnScope s_own_names) := C8.fnScope_by (by decide +kernel)
abbrev s_nodes : Stmt := topS 16
abbrev N_nodes : List Str := ["formula", "found", "waiting", "node", "level", "part"]
theorem sc_nodes : FnScope N_nodes ["formula"] (C8.fnScope s_nodes) := C8.fnScope_by (by decide +kernel)
abbrev s_free_names : Stmt := topS 17
abbrev N_free_names : List Str := ["formula", "found", "waiting", "node", "bound", "name", "part"]
theorem sc_free_names : FnScope N_free_names ["formula"] (C8.fnScope s_free_names) := C8.fnScope_by (by decide +kernel)
abbrev s_check_formula : Stmt := topS 20
abbrev N_check_formula : List Str := ["book", "formula", "node", "_"]
theorem sc_check_formula : FnScope N_check_formula ["book", "formula"] (C8.fnScope s_check_formula) := C8.fnScope_by (by decide +kernel)
abbrev s_letters : Stmt := topS 22
abbrev N_letters : List Str := ["width"]
theorem sc_letters : FnScope N_letters ["width"] (C8.fnScope s_letters) := C8.fnScope_by (by decide +kernel)
abbrev s_is_table : Stmt := topS 27
abbrev N_is_table : List Str := ["table", "length", "row", "successor"]
theorem sc_is_table : FnScope N_is_table ["table", "length"] (C8.fnScope s_is_table) := C8.fnScope_by (by decide +kernel)
abbrev s_is_state : Stmt := topS 28
abbrev N_is_state : List Str := ["value", "size"]
theorem sc_is_state : FnScope N_is_state ["value", "size"] (C8.fnScope s_is_state) := C8.fnScope_by (by decide +kernel)
abbrev s_check_width : Stmt := topS 29
abbrev N_check_width : List Str := ["width"]
theorem sc_check_width : FnScope N_check_width ["width"] (C8.fnScope s_check_width) := C8.fnScope_by (by decide +kernel)
abbrev s__law_wide : Stmt := topS 34
abbrev N__law_wide : List Str := ["script", "k", "cell", "mixed"]
theorem sc__law_wide : FnScope N__law_wide ["script", "k"] (C8.fnScope s__law_wide) := C8.fnScope_by (by decide +kernel)
abbrev s__law_take : Stmt := topS 35
abbrev N__law_take : List Str := ["pool", "most", "taken"]
theorem sc__law_take : FnScope N__law_take ["pool", "most"] (C8.fnScope s__law_take) := C8.fnScope_by (by decide +kernel)
abbrev s__law_pool : Stmt := topS 36
abbrev N__law_pool : List Str := ["script"]
theorem sc__law_pool : FnScope N__law_pool ["script"] (C8.fnScope s__law_pool) := C8.fnScope_by (by decide +kernel)
abbrev s__law_reserved : Stmt := topS 37
abbrev N__law_reserved : List Str := []
theorem sc__law_reserved : FnScope N__law_reserved [] (C8.fnScope s__law_reserved) := C8.fnScope_by (by decide +kernel)
abbrev s__law_signs : Stmt := topS 38
abbrev N__law_signs : List Str := ["first"]
theorem sc__law_signs : FnScope N__law_signs [] (C8.fnScope s__law_signs) := C8.fnScope_by (by decide +kernel)
abbrev s__law_name : Stmt := topS 39
abbrev N__law_name : List Str := ["pool", "letters_v", "name", "k"]
theorem sc__law_name : FnScope N__law_name ["pool"] (C8.fnScope s__law_name) := C8.fnScope_by (by decide +kernel)
abbrev s__law_word : Stmt := topS 40
abbrev N__law_word : List Str := ["pool", "letters_v", "name", "k"]
theorem sc__law_word : FnScope N__law_word ["pool"] (C8.fnScope s__law_word) := C8.fnScope_by (by decide +kernel)
abbrev s__law_joins : Stmt := topS 41
abbrev N__law_joins : List Str := ["left", "right", "sign"]
theorem sc__law_joins : FnScope N__law_joins ["left", "right"] (C8.fnScope s__law_joins) := C8.fnScope_by (by decide +kernel)
abbrev s__law_space : Stmt := topS 42
abbrev N__law_space : List Str := ["pool", "needed", "space"]
theorem sc__law_space : FnScope N__law_space ["pool", "needed"] (C8.fnScope s__law_space) := C8.fnScope_by (by decide +kernel)
abbrev s__law_text : Stmt := topS 43
abbrev N__law_text : List Str := ["pool", "parts_v", "text", "places", "k"]
theorem sc__law_text : FnScope N__law_text ["pool", "parts_v"] (C8.fnScope s__law_text) := C8.fnScope_by (by decide +kernel)
abbrev s__law_term : Stmt := topS 44
abbrev N__law_term : List Str := ["pool", "names", "pairs", "k", "name", "constant"]
theorem sc__law_term : FnScope N__law_term ["pool", "names"] (C8.fnScope s__law_term) := C8.fnScope_by (by decide +kernel)
abbrev s__law_worth : Stmt := topS 45
abbrev N__law_worth : List Str := ["term", "numbers", "total", "pair"]
theorem sc__law_worth : FnScope N__law_worth ["term", "numbers"] (C8.fnScope s__law_worth) := C8.fnScope_by (by decide +kernel)
abbrev s__law_formula : Stmt := topS 46
abbrev N__law_formula : List Str := ["pool", "names", "depth", "choice", "given", "head", "left", "k"]
theorem sc__law_formula : FnScope N__law_formula ["pool", "names", "depth"] (C8.fnScope s__law_formula) := C8.fnScope_by (by decide +kernel)
abbrev s__law_parts : Stmt := topS 47
abbrev N__law_parts : List Str := ["formula"]
theorem sc__law_parts : FnScope N__law_parts ["formula"] (C8.fnScope s__law_parts) := C8.fnScope_by (by decide +kernel)
abbrev s__law_own : Stmt := topS 48
abbrev N__law_own : List Str := ["formula", "pair"]
theorem sc__law_own : FnScope N__law_own ["formula"] (C8.fnScope s__law_own) := C8.fnScope_by (by decide +kernel)
abbrev s__law_free : Stmt := topS 49
abbrev N__law_free : List Str := ["formula", "found", "name", "part"]
theorem sc__law_free : FnScope N__law_free ["formula"] (C8.fnScope s__law_free) := C8.fnScope_by (by decide +kernel)
abbrev s__law_fault : Stmt := topS 50
abbrev N__law_fault : List Str := ["counts", "words", "formula", "part", "fault"]
theorem sc__law_fault : FnScope N__law_fault ["counts", "words", "formula"] (C8.fnScope s__law_fault) := C8.fnScope_by (by decide +kernel)
abbrev s__law_due : Stmt := topS 51
abbrev N__law_due : List Str := ["counts", "words", "name", "parameters", "formula", "k", "fault", "free"]
theorem sc__law_due : FnScope N__law_due ["counts", "words", "name", "parameters", "formula"] (C8.fnScope s__law_due) := C8.fnScope_by (by decide +kernel)
abbrev s__law_told : Stmt := topS 52
abbrev N__law_told : List Str := ["book", "name", "parameters", "formula", "e"]
theorem sc__law_told : FnScope N__law_told ["book", "name", "parameters", "formula"] (C8.fnScope s__law_told) := C8.fnScope_by (by decide +kernel)
abbrev s__law_tells : Stmt := topS 53
abbrev N__law_tells : List Str := ["book", "word", "e"]
theorem sc__law_tells : FnScope N__law_tells ["book", "word"] (C8.fnScope s__law_tells) := C8.fnScope_by (by decide +kernel)
abbrev s_law : Stmt := topS 54
abbrev N_law : List Str := ["script", "pool", "book", "words", "word", "counts", "order", "k", "names", "formula", "parameters", "name", "due", "j"]
theorem sc_law : FnScope N_law ["script"] (C8.fnScope s_law) := C8.fnScope_by (by decide +kernel)
abbrev s_Book___init__ : Stmt := (C8.clsBody (topS 19)).getD 0 (.Pass ⟨0, 0, 0, 0⟩)
abbrev N_Book___init__ : List Str := ["self"]
theorem sc_Book___init__ : FnScope N_Book___init__ ["self"] (C8.fnScope s_Book___init__) := C8.fnScope_by (by decide +kernel)
abbrev s_Book_define : Stmt := (C8.clsBody (topS 19)).getD 1 (.Pass ⟨0, 0, 0, 0⟩)
abbrev N_Book_define : List Str := ["self", "name", "parameters", "formula", "at", "parameter", "free"]
theorem sc_Book_define : FnScope N_Book_define ["self", "name", "parameters", "formula"] (C8.fnScope s_Book_define) := C8.fnScope_by (by decide +kernel)
abbrev s_Book_tell : Stmt := (C8.clsBody (topS 19)).getD 2 (.Pass ⟨0, 0, 0, 0⟩)
abbrev N_Book_tell : List Str := ["self", "word", "told"]
theorem sc_Book_tell : FnScope N_Book_tell ["self", "word", "told"] (C8.fnScope s_Book_tell) := C8.fnScope_by (by decide +kernel)
abbrev s_Book_parameters : Stmt := (C8.clsBody (topS 19)).getD 3 (.Pass ⟨0, 0, 0, 0⟩)
abbrev N_Book_parameters : List Str := ["self", "name"]
theorem sc_Book_parameters : FnScope N_Book_parameters ["self", "name"] (C8.fnScope s_Book_parameters) := C8.fnScope_by (by decide +kernel)
abbrev s_Book_formula : Stmt := (C8.clsBody (topS 19)).getD 4 (.Pass ⟨0, 0, 0, 0⟩)
abbrev N_Book_formula : List Str := ["self", "name"]
theorem sc_Book_formula : FnScope N_Book_formula ["self", "name"] (C8.fnScope s_Book_formula) := C8.fnScope_by (by decide +kernel)
abbrev s_Book_told : Stmt := (C8.clsBody (topS 19)).getD 5 (.Pass ⟨0, 0, 0, 0⟩)
abbrev N_Book_told : List Str := ["self", "word"]
theorem sc_Book_told : FnScope N_Book_told ["self", "word"] (C8.fnScope s_Book_told) := C8.fnScope_by (by decide +kernel)
abbrev s_Book_has_definition : Stmt := (C8.clsBody (topS 19)).getD 6 (.Pass ⟨0, 0, 0, 0⟩)
abbrev N_Book_has_definition : List Str := ["self", "name"]
theorem sc_Book_has_definition : FnScope N_Book_has_definition ["self", "name"] (C8.fnScope s_Book_has_definition) := C8.fnScope_by (by decide +kernel)
abbrev s_Book_has_word : Stmt := (C8.clsBody (topS 19)).getD 7 (.Pass ⟨0, 0, 0, 0⟩)
abbrev N_Book_has_word : List Str := ["self", "word"]
theorem sc_Book_has_word : FnScope N_Book_has_word ["self", "word"] (C8.fnScope s_Book_has_word) := C8.fnScope_by (by decide +kernel)
abbrev s_Book_definitions : Stmt := (C8.clsBody (topS 19)).getD 8 (.Pass ⟨0, 0, 0, 0⟩)
abbrev N_Book_definitions : List Str := ["self"]
theorem sc_Book_definitions : FnScope N_Book_definitions ["self"] (C8.fnScope s_Book_definitions) := C8.fnScope_by (by decide +kernel)
abbrev s_Book_words : Stmt := (C8.clsBody (topS 19)).getD 9 (.Pass ⟨0, 0, 0, 0⟩)
abbrev N_Book_words : List Str := ["self"]
theorem sc_Book_words : FnScope N_Book_words ["self"] (C8.fnScope s_Book_words) := C8.fnScope_by (by decide +kernel)
abbrev s_Told___init__ : Stmt := (C8.clsBody (topS 32)).getD 0 (.Pass ⟨0, 0, 0, 0⟩)
abbrev N_Told___init__ : List Str := ["self", "outputs", "table", "state", "row", "output"]
theorem sc_Told___init__ : FnScope N_Told___init__ ["self", "outputs", "table"] (C8.fnScope s_Told___init__) := C8.fnScope_by (by decide +kernel)
section
local macro_rules | `(tactic| walk_at "rd") => `(tactic| simp only [tSeq, tNext, tAsg, gName, tRet, tRetN, tIfS, tDrop, tVar, tC, tOp, tUn, tTest, tCB, tCons, tNil, tB, tAnd, tOr, tNot, tAndV, tOrV, tNotV, tIf, tCall, tTup, tLst, tSl, tPart, tNoPart, tM0, tM1, tBM, tChain, tBreak, tCont, tNever, tAug, ipI, tPar, tyV_str,
  tFor_eq, tLc_eq, tMkO, tYes, wipe, ofStr_S, S_cat, one_S, len_S, S_iff, S_cps, Int.zero_add, gNil, gCons, gTup, gSub, iRng1, iRng2, iList, iTup, iStr, rI0, rI, rU, rEq, rNe, rIxL, rIxT, rIxS, Dw.rLen, rListOf, rTupOf, rNotB, rIsB, rMulS, rIn, rCat, rAppend, rCatA, rEqD, rNeD, C8.rSlX, tDGet, tDGet2, tDIn, tDNotIn, rSetD, rAll, rKIn, tBM0, rPop, rExtend, tAddT, rAddT, rSetT0, Dw.rSetL, rSortT, StX.tStar, tDNewK, tDisp, tPairs, L2.start, cxOf_K, cxOf_w, cxOf_prog,
  List.map_cons, List.map_nil, List.length_cons, List.length_nil, List.replicate, List.cons_append, List.nil_append, Nat.reduceAdd, Nat.reduceSub, Nat.zero_add, List.append_nil,
  List.set_cons_zero, List.set_cons_succ, List.getElem?_cons_zero, List.getElem?_cons_succ, Option.some.injEq, V.int.injEq, V.bl.injEq, V.ref.injEq, V.str.injEq, V.ty.injEq, List.cons.injEq, and_true, true_and, reduceCtorEq, false_and, exists_false, or_false, false_or, exists_eq_left, exists_eq_left', exists_eq', sw_S, an_S, exists_and_left, exists_const, exists_eq, decide_eq_true_eq, Bool.false_eq_true, if_true, if_false, Bool.not_eq_true', decide_eq_false_iff_not, Bool.not_true, Bool.not_false, ite_not, scal, and_false])
section
variable {P : Program} {w : World} {K : PySem.W.Frag} {mg : Str → Option Value} {base : Heap}
def sp_wide (K : PySem.W.Frag) : Sp := fun vs H Q _ => ∃ (q : Addr) (ns : List Int) (k : Int), vs = [.ref q, .int k] ∧ SqL K H q (ns.map V.int) ∧ 0 ≤ k ∧ ∀ r : Int, 0 ≤ r → Q (.int r) H
theorem c__law_wide {f : Addr} {fd : FuncData} (D : C8.Def K mg "_law_wide" s__law_wide f fd) (b : Binds K fd ["script", "k"] []) (z_len : mg "len" = none) (z_abs : mg "abs" = none) (z_int : mg "int" = none) : C8.Cal P w K mg base 1 "_law_wide" (sp_wide K) [] := by
  refine C8.cal0 D b .nil sc__law_wide (fun vs H Q E h => ?_) (fun cdv A outer s H vs Q E hr h => ?_)
  · obtain ⟨_, _, _, rfl, _⟩ := h
    rfl
  · obtain ⟨q, ns, k, rfl, hS, hk, ok⟩ := h
    refine ⟨_, (pss_cons (ps_set (i := 2) sc__law_wide.nd rfl (by first | exact Or.inl rfl | exact Or.inr rfl) pe_int) (C8.pss_cut (ps_if (pt_cmpR (op_lt) (pv 1) (pe_callB (lenS K) (by rfl) z_len PySem.boot_len (pa_cons (pv 0) pa_nil)) (nomark _)) (pss_one (ps_set (i := 2) sc__law_wide.nd rfl (by first | exact Or.inl rfl | exact Or.inr rfl) (pe_callB call_abs (by rfl) z_abs (by decide +kernel) (pa_cons (pe_ix (ixL K) (pv 0) (pv 1) (fun _ _ => rfl)) pa_nil)))) pss_nil) (pss_cons (ps_if (pt_cmpR (op_ge) (pv 2) pe_int (nomark _)) (pss_one (ps_ret (pv 2))) pss_nil) (pss_cons (ps_set (i := 3) sc__law_wide.nd rfl (by first | exact Or.inl rfl | exact Or.inr rfl) (pe_op op_mod (pe_callTy call_int1 (by rfl) z_int (by decide +kernel) (pa_cons (pe_op op_add (pe_op op_mul (pe_op op_add (pv 2) pe_int) pe_int) (pe_op op_mul (pe_op op_add (pv 1) pe_int) pe_int)) pa_nil)) pe_int)) (pss_one (ps_ret (pe_op op_mod (pe_callTy call_int1 (by rfl) z_int (by decide +kernel) (pa_cons (pe_op op_add (pe_op op_mul (pv 3) pe_int) (pe_op op_fdiv (pv 3) pe_int)) pa_nil)) pe_int))))))), ?_⟩
    walk_at "rd"
    obtain ⟨M, hM⟩ : ∃ M : L2.St → Hp → Prop, M = fun σ' H' => ∃ c : Int, 0 ≤ c ∧ σ' = [some (.ref q), some (.int k), some (.int c), none] ∧ H' = H := ⟨_, rfl⟩
    refine ⟨M, ?_, fun σ' H' hm => ?_⟩
    · walk_at "rd"
      refine ⟨_, .inl hS, ite2 (fun h1 => ?_) (fun h1 => ?_)⟩
      · rw [List.length_map] at h1
        refine ⟨_, hS, .int (ns.getD k.toNat 0), at_ints hk h1, ns.getD k.toNat 0, rfl, ?_⟩
        rw [hM]
        exact ⟨_, by split <;> omega, rfl, rfl⟩
      · rw [hM]
        exact ⟨0, Int.le_refl 0, rfl, rfl⟩
    · rw [hM] at hm
      obtain ⟨c, hc, rfl, rfl⟩ := hm
      walk_at "rd"
      refine ite2 (fun _ => ok c hc) (fun _ => ⟨.inr ⟨by decide, by decide⟩, .inr ⟨by decide, by decide⟩, by decide, .inr ⟨by decide, by decide⟩, ⟨by decide, by decide⟩, by decide, ok _ ?_⟩)
      exact Int.emod_nonneg _ (by decide)

def sp_take : Sp := fun vs H Q _ => ∃ (p q : Addr) (ns : List Int) (m : Int), vs = [.ref p, .int m] ∧ Pool H p q ns ∧ 0 < m ∧ m < 1073741824 ∧ ∀ (r : Int) H', 0 ≤ r → r < m → But p H H' → Pool H' p q ns → Q (.int r) H'
theorem c__law_take {f : Addr} {fd : FuncData} (D : C8.Def K mg "_law_take" s__law_take f fd) (b : Binds K fd ["pool", "most"] []) (z_int : mg "int" = none) (c__law_wide : C8.Cal P w K mg base 1 "_law_wide" (sp_wide K) []) : C8.Cal P w K mg base 2 "_law_take" sp_take [] := by
  refine C8.cal0 D b .nil sc__law_take (fun vs H Q E h => ?_) (fun cdv A outer s H vs Q E hr h => ?_)
  · obtain ⟨_, _, _, _, rfl, _⟩ := h
    rfl
  · obtain ⟨p, q, ns, m, rfl, ⟨hne, hq, a, k, hp, ha, hk⟩, hm0, hm1, ok⟩ := h
    refine ⟨_, (C8.pss_cut (ps_if (pt_cmpR (op_lt) (pe_ix (ixL K) (pv 0) pe_int (fun _ _ => rfl)) pe_int (nomark _)) (pss_cons (ps_asg (pe_op op_add (pe_ix (ixL K) (pv 0) pe_int (fun _ _ => rfl)) pe_int) (pg_sub (pv 0) pe_int set_list)) (pss_one (ps_asg (C8.pe_c c__law_wide hr (by decide) (by rfl) (pa_cons (pe_ix (ixL K) (pv 0) pe_int (fun _ _ => rfl)) (pa_cons (pe_ix (ixL K) (pv 0) pe_int (fun _ _ => rfl)) pa_nil))) (pg_sub (pv 0) pe_int set_list)))) pss_nil) (pss_cons (ps_set (i := 2) sc__law_take.nd rfl (by first | exact Or.inl rfl | exact Or.inr rfl) (pe_op op_mod (pe_callTy call_int1 (by rfl) z_int (by decide +kernel) (pa_cons (pe_ix (ixL K) (pv 0) pe_int (fun _ _ => rfl)) pa_nil)) (pv 1))) (pss_cons (ps_asg (pe_op op_fdiv (pe_ix (ixL K) (pv 0) pe_int (fun _ _ => rfl)) (pv 1)) (pg_sub (pv 0) pe_int set_list)) (pss_one (ps_ret (pv 2)))))), ?_⟩
    walk_at "rd"
    obtain ⟨M, hM⟩ : ∃ M : L2.St → Hp → Prop, M = fun σ' H' => But p H H' ∧ (∃ a k : Int, H' p = some (.lst [.int a, .ref q, .int k]) ∧ 0 ≤ a ∧ -1 ≤ k) ∧ σ' = [some (.ref p), some (.int m), none] := ⟨_, rfl⟩
    refine ⟨M, ?_, fun σ' H' hm => ?_⟩
    · walk_at "rd"
      refine ⟨_, SqL.of hp, _, rfl, ?_⟩
      walk_at "rd"
      refine ite2 (fun h1 => ?_) (fun h1 => ?_)
      · refine ⟨_, SqL.of hp, _, rfl, ?_⟩
        walk_at "rd"
        refine ⟨_, _, _, _, rfl, rfl, hp, rfl, ?_⟩
        refine ⟨_, SqL.of upd_same, _, rfl, _, SqL.of upd_same, _, rfl, ?_⟩
        have e2 : (upd H p (.lst ([V.int a, V.ref q, V.int k].set 2 (V.int (k + 1))))) q = some (.lst (ns.map V.int)) := by
          rw [upd_ne hne.symm]
          exact hq
        refine ⟨q, ns, k + 1, rfl, SqL.of e2, by omega, fun r hr0 => ?_⟩
        refine ⟨_, _, _, _, rfl, rfl, upd_same, rfl, ?_⟩
        rw [hM]
        exact ⟨But.upd.trans But.upd, ⟨r, k + 1, upd_same, hr0, by omega⟩, rfl⟩
      · rw [hM]
        exact ⟨But.refl _ _, ⟨a, k, hp, ha, hk⟩, rfl⟩
    · rw [hM] at hm
      obtain ⟨hB, ⟨a1, k1, hp1, ha1, hk1⟩, rfl⟩ := hm
      walk_at "rd"
      refine ⟨_, SqL.of hp1, _, rfl, ?_⟩
      walk_at "rd"
      refine ⟨hm0, _, SqL.of hp1, _, rfl, ?_⟩
      walk_at "rd"
      refine ⟨⟨hm0, hm1⟩, _, _, _, _, rfl, rfl, hp1, rfl, ?_⟩
      refine ok _ _ (Int.emod_nonneg _ (by omega)) (Int.emod_lt_of_pos _ hm0) (hB.trans But.upd) ⟨hne, ?_, a1 / m, k1, upd_same, Int.ediv_nonneg ha1 (by omega), hk1⟩
      rw [upd_ne hne.symm]
      exact hB _ _ hne.symm hq

def sp_pool (K : PySem.W.Frag) : Sp := fun vs H Q _ => ∃ (a : Addr) (ns : List Int), vs = [.ref a] ∧ SqL K H a (ns.map V.int) ∧ ∀ p q H', Same H H' → H p = none → H q = none → Pool H' p q ns → Q (.ref p) H'
theorem c__law_pool {f : Addr} {fd : FuncData} (D : C8.Def K mg "_law_pool" s__law_pool f fd) (b : Binds K fd ["script"] []) (z_list : mg "list" = none) : C8.Cal P w K mg base 1 "_law_pool" (sp_pool K) [] := by
  refine C8.cal0 D b .nil sc__law_pool (fun vs H Q E h => ?_) (fun cdv A outer s H vs Q E hr h => ?_)
  · obtain ⟨_, _, rfl, _⟩ := h
    rfl
  · obtain ⟨a, ns, rfl, hS, ok⟩ := h
    refine ⟨_, (pss_one (ps_ret (pe_lst (pa_cons pe_int (pa_cons (pe_callTy (listOf K) (by rfl) z_list (by decide +kernel) (pa_cons (pv 0) pa_nil)) (pa_cons (pe_un un_neg pe_int) pa_nil)))))), ?_⟩
    walk_at "rd"
    refine ⟨_, .inl hS, fun q hq => ⟨by show 3 ≤ sizeLine; decide, fun p hp => ?_⟩⟩
    have hne : p ≠ q := fun e => by
      subst e
      rw [upd_same] at hp
      cases hp
    have hp0 : H p = none := by
      rw [upd_ne hne] at hp
      exact hp
    refine ok p q _ ((same_upd hq).trans (same_upd hp)) hp0 hq ⟨hne, ?_, 0, -1, upd_same, by decide, by decide⟩
    rw [upd_ne hne.symm, upd_same]
/-- a written list, an item of it drawn -/
theorem menu {H : Hp} {p q l : Addr} {ns : List Int} {xs : List V} {Q : VK} {E : XK} (hP : Pool H p q ns) (hl : H l = none) (m : Int) (hm : m = xs.length) (hm0 : 0 < m) (hm1 : m < 1073741824) (ok : ∀ v H', v ∈ xs → But p H H' → Pool H' p q ns → Q v H') :
    sp_take [.ref p, .int m] (upd H l (.lst xs)) (fun y H2 => ∃ x x_1, y = V.int x_1 ∧ SqL K H2 l x ∧ ∃ x_2, atI x x_1 = some x_2 ∧ Q x_2 H2) E := by
  refine ⟨p, q, ns, m, rfl, hP.same (same_upd hl), hm0, hm1, fun r H1 r0 r1 hB hP1 => ?_⟩
  have hne : l ≠ p := by
    obtain ⟨_, _, _, _, hp, _⟩ := hP
    exact (ne_of_none hp hl).symm
  obtain ⟨v, hv, hm2⟩ := at_mem (xs := xs) r0 (by omega)
  exact ⟨_, r, rfl, SqL.of (hB l _ hne upd_same), v, hv, ok v H1 hm2 ((But.of (same_upd hl)).trans hB) hP1⟩
/-- a sign of a text drawn -/
theorem sign {H : Hp} {p q : Addr} {ns : List Int} {l : List Nat} {Q : Nat → Hp → Prop} {E : XK} (hP : Pool H p q ns) (m : Int) (hm : m = l.length) (hm0 : 0 < m) (hm1 : m < 10000) (ok : ∀ c H', c ∈ l → But p H H' → Pool H' p q ns → Q c H') :
    sp_take [.ref p, .int m] H (fun y H2 => ∃ x, y = V.int x ∧ l.length ≤ sizeLine ∧ ∃ c, atI l x = some c ∧ Q c H2) E := by
  refine ⟨p, q, ns, m, rfl, hP, hm0, by omega, fun r H1 r0 r1 hB hP1 => ?_⟩
  obtain ⟨v, hv, hm2⟩ := at_mem (xs := l) r0 (by omega)
  exact ⟨r, rfl, small (by omega), v, hv, ok v H1 hm2 hB hP1⟩
def sp_reserved : Sp := fun vs H Q _ => vs = [] ∧ ∀ p H', Same H H' → H p = none → H' p = some (.lst (RES.map vS)) → Q (.ref p) H'
theorem c__law_reserved {f : Addr} {fd : FuncData} (D : C8.Def K mg "_law_reserved" s__law_reserved f fd) (b : Binds K fd [] [])  : C8.Cal P w K mg base 1 "_law_reserved" sp_reserved [] := by
  refine C8.cal0 D b .nil sc__law_reserved (fun vs H Q E h => ?_) (fun cdv A outer s H vs Q E hr h => ?_)
  · obtain ⟨rfl, _⟩ := h
    rfl
  · obtain ⟨rfl, ok⟩ := h
    refine ⟨_, (pss_one (ps_ret (pe_lst (pa_cons pe_str (pa_cons pe_str (pa_cons pe_str (pa_cons pe_str (pa_cons pe_str pa_nil)))))))), ?_⟩
    walk_at "rd"
    refine ⟨by show 5 ≤ sizeLine; decide, fun p hp => ok p _ (same_upd hp) hp upd_same⟩
def sp_signs : Sp := fun vs H Q _ => vs = [] ∧ ∀ p H', Same H H' → H p = none → H' p = some (.lst (SGN.map vS)) → Q (.ref p) H'
theorem c__law_signs {f : Addr} {fd : FuncData} (D : C8.Def K mg "_law_signs" s__law_signs f fd) (b : Binds K fd [] [])  : C8.Cal P w K mg base 1 "_law_signs" sp_signs [] := by
  refine C8.cal0 D b .nil sc__law_signs (fun vs H Q E h => ?_) (fun cdv A outer s H vs Q E hr h => ?_)
  · obtain ⟨rfl, _⟩ := h
    rfl
  · obtain ⟨rfl, ok⟩ := h
    refine ⟨_, (pss_cons (ps_set (i := 0) sc__law_signs.nd rfl (by first | exact Or.inl rfl | exact Or.inr rfl) (pe_lst (pa_cons pe_str (pa_cons pe_str (pa_cons pe_str (pa_cons pe_str (pa_cons pe_str (pa_cons pe_str (pa_cons pe_str (pa_cons pe_str (pa_cons pe_str (pa_cons pe_str (pa_cons pe_str (pa_cons pe_str pa_nil)))))))))))))) (pss_one (ps_ret (pe_op op_cat (pv 0) (pe_lst (pa_cons pe_str (pa_cons pe_str (pa_cons pe_str (pa_cons pe_str (pa_cons pe_str (pa_cons pe_str (pa_cons pe_str (pa_cons pe_str (pa_cons pe_str (pa_cons pe_str (pa_cons pe_str (pa_cons pe_str pa_nil))))))))))))))))), ?_⟩
    walk_at "rd"
    refine ⟨by show 12 ≤ sizeLine; decide, fun p hp => ⟨by show 12 ≤ sizeLine; decide, fun r hr0 => ?_⟩⟩
    have nr : p ≠ r := ne_of_none upd_same hr0
    refine ⟨_, (by rw [upd_ne nr]; exact upd_same), _, upd_same, by show 24 ≤ sizeLine; decide, fun u hu => ?_⟩
    have hu0 : H u = none := ((same_upd hp).trans (same_upd hr0)).free hu
    exact ok u _ (((same_upd hp).trans (same_upd hr0)).trans (same_upd hu)) hu0 upd_same
def sp_name : Sp := fun vs H Q _ => ∃ (p q : Addr) (ns : List Int), vs = [.ref p] ∧ Pool H p q ns ∧ ∀ l H', GName l → But p H H' → Pool H' p q ns → Q (.str (S l)) H'
def NumL (L : List Int) : List V := L.map V.int
theorem c__law_name {f : Addr} {fd : FuncData} (D : C8.Def K mg "_law_name" s__law_name f fd) (b : Binds K fd ["pool"] []) (c__law_take : C8.Cal P w K mg base 2 "_law_take" sp_take []) (c__law_reserved : C8.Cal P w K mg base 1 "_law_reserved" sp_reserved []) (z_range : mg "range" = none) : C8.Cal P w K mg base 3 "_law_name" sp_name [] := by
  refine C8.cal0 D b .nil sc__law_name (fun vs H Q E h => ?_) (fun cdv A outer s H vs Q E hr h => ?_)
  · obtain ⟨_, _, _, rfl, _⟩ := h
    rfl
  · obtain ⟨p, q, ns, rfl, hP, ok⟩ := h
    refine ⟨_, (pss_cons (ps_set (i := 1) sc__law_name.nd rfl (by first | exact Or.inl rfl | exact Or.inr rfl) pe_str) (pss_cons (ps_set (i := 2) sc__law_name.nd rfl (by first | exact Or.inl rfl | exact Or.inr rfl) (pe_ix (ixL K) (pe_lst (pa_cons pe_str (pa_cons pe_str (pa_cons pe_str (pa_cons pe_str (pa_cons pe_str (pa_cons pe_str (pa_cons pe_str (pa_cons pe_str pa_nil))))))))) (C8.pe_c c__law_take hr (by decide) (by rfl) (pa_cons (pv 0) (pa_cons pe_int pa_nil))) (fun _ _ => rfl))) (C8.pss_cut (ps_if (pt_cmpR (op_eq) (C8.pe_c c__law_take hr (by decide) (by rfl) (pa_cons (pv 0) (pa_cons pe_int pa_nil))) pe_int (nomark _)) (pss_cons (ps_set (i := 2) sc__law_name.nd rfl (by first | exact Or.inl rfl | exact Or.inr rfl) (pe_ix ix_str (pv 1) (C8.pe_c c__law_take hr (by decide) (by rfl) (pa_cons (pv 0) (pa_cons pe_int pa_nil))) (fun _ _ => rfl))) (pss_one (ps_for PassesOwn.never rfl (pi_range1 (by rfl) z_range (pa_cons (pe_ix (ixL K) (pe_lst (pa_cons pe_int (pa_cons pe_int (pa_cons pe_int (pa_cons pe_int (pa_cons pe_int (pa_cons pe_int pa_nil))))))) (C8.pe_c c__law_take hr (by decide) (by rfl) (pa_cons (pv 0) (pa_cons pe_int pa_nil))) (fun _ _ => rfl)) pa_nil)) (pg_name (i := 3) sc__law_name.nd rfl (by first | exact Or.inl rfl | exact Or.inr rfl)) (pss_one (ps_set (i := 2) sc__law_name.nd rfl (by first | exact Or.inl rfl | exact Or.inr rfl) (pe_op op_add_str (pv 2) (pe_ix ix_str (pe_op op_add_str (pv 1) pe_str) (C8.pe_c c__law_take hr (by decide) (by rfl) (pa_cons (pv 0) (pa_cons pe_int pa_nil))) (fun _ _ => rfl)))))))) pss_nil) (C8.pss_cut (ps_if (pt_cmpR (inQ K) (pv 2) (pe_c0 c__law_reserved hr (by decide) (by rfl)) (by with_unfolding_all rfl)) (pss_one (ps_set (i := 2) sc__law_name.nd rfl (by first | exact Or.inl rfl | exact Or.inr rfl) (pe_op op_add_str (pv 2) pe_str))) pss_nil) (pss_one (ps_ret (pv 2))))))), ?_⟩
    walk_at "rd"
    refine ⟨by show 8 ≤ sizeLine; decide, fun l1 hl1 => menu hP hl1 8 rfl (by decide) (by decide) fun v H1 hv hB1 hP1 => ?_⟩
    obtain ⟨nm, hnm, rfl⟩ : ∃ nm ∈ NMS, vS (cs nm) = v := List.mem_map.mp (show v ∈ NMS.map fun s => vS (cs s) from hv)
    obtain ⟨M, hM⟩ : ∃ M : L2.St → Hp → Prop, M = fun σ' H' => ∃ (l : List Nat) (k : Option V), (∃ c r, l = c :: r ∧ c ∈ LOW) ∧ (∀ c ∈ l, c ∈ LOW ++ DIG) ∧ l.length ≤ 12 ∧ σ' = [some (.ref p), some (.str (S LOW)), some (.str (S l)), k] ∧ But p H H' ∧ Pool H' p q ns := ⟨_, rfl⟩
    refine ⟨M, ?_, fun σ' H' hm => ?_⟩
    · walk_at "rd"
      refine ⟨p, q, ns, 3, rfl, hP1, by decide, by decide, fun r H2 r0 r1 hB2 hP2 => ⟨rfl, ?_⟩⟩
      walk_at "rd"
      refine ite2 (fun _ => ?_) (fun _ => ?_)
      · refine sign hP2 26 (by exact congrArg Int.ofNat low_len.symm) (by decide) (by decide) (fun c H3 hc hB3 hP3 => ?_)
        refine ⟨by show 6 ≤ sizeLine; decide, fun l2 hl2 => menu hP3 hl2 6 rfl (by decide) (by decide) fun v H4 hv4 hB4 hP4 => ?_⟩
        obtain ⟨j, hj, rfl⟩ : ∃ j ∈ ([0, 1, 2, 3, 7, 11] : List Int), V.int j = v := List.mem_map.mp (show v ∈ ([0, 1, 2, 3, 7, 11] : List Int).map V.int from hv4)
        have hj2 : 0 ≤ j ∧ j ≤ 11 := by
          have : ∀ j ∈ ([0, 1, 2, 3, 7, 11] : List Int), 0 ≤ j ∧ j ≤ 11 := by decide
          exact this j hj
        refine ⟨j, rfl, by omega, by omega, ?_⟩
        have hBx : But p H H4 := ((hB1.trans hB2).trans hB3).trans hB4
        refine for_range (fun i σ H5 => ∃ (l : List Nat) (k : Option V), (∃ c r, l = c :: r ∧ c ∈ LOW) ∧ (∀ c ∈ l, c ∈ LOW ++ DIG) ∧ l.length = i + 1 ∧ σ = [some (.ref p), some (.str (S LOW)), some (.str (S l)), k] ∧ But p H H5 ∧ Pool H5 p q ns) ?_ ?_ ?_
        · exact ⟨[c], none, ⟨c, [], rfl, hc⟩, fun d hd => by rw [List.mem_singleton.mp hd]; exact List.mem_append_left _ hc, rfl, rfl, hBx, hP4⟩
        · rintro i σ H5 hi ⟨l, k, hd, al, le, rfl, hB5, hP5⟩
          have hle : l.length ≤ 11 := by omega
          walk_at "rd"
          refine ⟨by rw [low_len]; exact small (by decide), sign (l := LOW ++ DIG) hP5 36 (by rw [lowdig_len]; rfl) (by decide) (by decide) fun d H6 hd6 hB6 hP6 => ⟨small (by omega), l ++ [d], ?_, ?_, ?_, _, ⟨rfl, rfl⟩, hB5.trans hB6, hP6⟩⟩
          · obtain ⟨c0, r0', rfl, hc0⟩ := hd
            exact ⟨c0, r0' ++ [d], rfl, hc0⟩
          · intro x hx
            rcases List.mem_append.mp hx with hx | hx
            · exact al x hx
            · rw [List.mem_singleton.mp hx]
              exact hd6
          · rw [List.length_append, le]
            rfl
        · rintro σ H5 ⟨l, k, hd, al, le, rfl, hB5, hP5⟩
          rw [hM]
          exact ⟨l, k, hd, al, by omega, rfl, hB5, hP5⟩
      · rw [hM]
        obtain ⟨h1, h2, h3⟩ := nms_ok nm hnm
        exact ⟨cs nm, none, h1, h2, h3, rfl, hB1.trans hB2, hP2⟩
    · rw [hM] at hm
      obtain ⟨l, k, hd, al, le, rfl, hB, hP2⟩ := hm
      obtain ⟨M2, hM2⟩ : ∃ M : L2.St → Hp → Prop, M = fun σ' H' => ∃ (l : List Nat) (k : Option V), GName l ∧ σ' = [some (.ref p), some (.str (S LOW)), some (.str (S l)), k] ∧ But p H H' ∧ Pool H' p q ns := ⟨_, rfl⟩
      refine ⟨M2, ?_, fun σ' H' hm => ?_⟩
      · walk_at "rd"
        refine ⟨rfl, fun r1 H3 sm hr0 hr1 => ⟨r1, rfl, _, .inl (SqL.of hr1), rfl, flat_S RES, ?_⟩⟩
        obtain ⟨g1, g2⟩ := gname_of hd al le
        rw [inV_S]
        refine ite2 (fun h => ?_) (fun h => ?_)
        · have hm : l ∈ RES := of_decide_eq_true h
          refine ⟨small (by have := res_len l hm; have : (cs "0").length = 1 := by decide +kernel
                            omega), ?_⟩
          rw [hM2]
          exact ⟨l ++ cs "0", k, g1 hm, rfl, hB.trans (But.of sm), hP2.same sm⟩
        · have hm : l ∉ RES := fun e => h (decide_eq_true e)
          rw [hM2]
          exact ⟨l, k, g2 hm, rfl, hB.trans (But.of sm), hP2.same sm⟩
      · rw [hM2] at hm
        obtain ⟨l, k, hg, rfl, hB3, hP3⟩ := hm
        walk_at "rd"
        exact ok l _ hg hB3 hP3
def sp_word : Sp := fun vs H Q _ => ∃ (p q : Addr) (ns : List Int), vs = [.ref p] ∧ Pool H p q ns ∧ ∀ l H', GWord l → But p H H' → Pool H' p q ns → Q (.str (S l)) H'
theorem c__law_word {f : Addr} {fd : FuncData} (D : C8.Def K mg "_law_word" s__law_word f fd) (b : Binds K fd ["pool"] []) (c__law_take : C8.Cal P w K mg base 2 "_law_take" sp_take []) (z_range : mg "range" = none) : C8.Cal P w K mg base 3 "_law_word" sp_word [] := by
  refine C8.cal0 D b .nil sc__law_word (fun vs H Q E h => ?_) (fun cdv A outer s H vs Q E hr h => ?_)
  · obtain ⟨_, _, _, rfl, _⟩ := h
    rfl
  · obtain ⟨p, q, ns, rfl, hP, ok⟩ := h
    refine ⟨_, (pss_cons (ps_set (i := 1) sc__law_word.nd rfl (by first | exact Or.inl rfl | exact Or.inr rfl) pe_str) (pss_cons (ps_set (i := 2) sc__law_word.nd rfl (by first | exact Or.inl rfl | exact Or.inr rfl) (pe_ix ix_str (pv 1) (C8.pe_c c__law_take hr (by decide) (by rfl) (pa_cons (pv 0) (pa_cons pe_int pa_nil))) (fun _ _ => rfl))) (pss_cons (ps_for PassesOwn.never rfl (pi_range1 (by rfl) z_range (pa_cons (pe_ix (ixL K) (pe_lst (pa_cons pe_int (pa_cons pe_int (pa_cons pe_int (pa_cons pe_int pa_nil))))) (C8.pe_c c__law_take hr (by decide) (by rfl) (pa_cons (pv 0) (pa_cons pe_int pa_nil))) (fun _ _ => rfl)) pa_nil)) (pg_name (i := 3) sc__law_word.nd rfl (by first | exact Or.inl rfl | exact Or.inr rfl)) (pss_one (ps_set (i := 2) sc__law_word.nd rfl (by first | exact Or.inl rfl | exact Or.inr rfl) (pe_op op_add_str (pv 2) (pe_ix ix_str (pe_op op_add_str (pv 1) pe_str) (C8.pe_c c__law_take hr (by decide) (by rfl) (pa_cons (pv 0) (pa_cons pe_int pa_nil))) (fun _ _ => rfl)))))) (pss_one (ps_ret (pv 2)))))), ?_⟩
    walk_at "rd"
    refine sign hP 26 (by exact congrArg Int.ofNat upp_len.symm) (by decide) (by decide) (fun c H3 hc hB3 hP3 => ?_)
    refine ⟨by show 4 ≤ sizeLine; decide, fun l2 hl2 => menu hP3 hl2 4 rfl (by decide) (by decide) fun v H4 hv4 hB4 hP4 => ?_⟩
    obtain ⟨j, hj, rfl⟩ : ∃ j ∈ ([0, 1, 2, 11] : List Int), V.int j = v := List.mem_map.mp (show v ∈ ([0, 1, 2, 11] : List Int).map V.int from hv4)
    have hj2 : 0 ≤ j ∧ j ≤ 11 := by
      have : ∀ j ∈ ([0, 1, 2, 11] : List Int), 0 ≤ j ∧ j ≤ 11 := by decide
      exact this j hj
    refine ⟨j, rfl, by omega, by omega, ?_⟩
    refine for_range (fun i σ H5 => ∃ (l : List Nat) (k : Option V), (∃ c r, l = c :: r ∧ c ∈ UPP) ∧ (∀ c ∈ l, c ∈ UPP ++ DIG) ∧ l.length = i + 1 ∧ σ = [some (.ref p), some (.str (S UPP)), some (.str (S l)), k] ∧ But p H H5 ∧ Pool H5 p q ns) ?_ ?_ ?_
    · exact ⟨[c], none, ⟨c, [], rfl, hc⟩, fun d hd => by rw [List.mem_singleton.mp hd]; exact List.mem_append_left _ hc, rfl, rfl, hB3.trans hB4, hP4⟩
    · rintro i σ H5 hi ⟨l, k, hd, al, le, rfl, hB5, hP5⟩
      have hle : l.length ≤ 11 := by omega
      walk_at "rd"
      refine ⟨by rw [upp_len]; exact small (by decide), sign (l := UPP ++ DIG) hP5 36 (by rw [uppdig_len]; rfl) (by decide) (by decide) fun d H6 hd6 hB6 hP6 => ⟨small (by omega), l ++ [d], ?_, ?_, ?_, _, ⟨rfl, rfl⟩, hB5.trans hB6, hP6⟩⟩
      · obtain ⟨c0, r0', rfl, hc0⟩ := hd
        exact ⟨c0, r0' ++ [d], rfl, hc0⟩
      · intro x hx
        rcases List.mem_append.mp hx with hx | hx
        · exact al x hx
        · rw [List.mem_singleton.mp hx]
          exact hd6
      · rw [List.length_append, le]
        rfl
    · rintro σ H5 ⟨l, k, hd, al, le, rfl, hB5, hP5⟩
      walk_at "rd"
      exact ok l _ ⟨hd, al, by omega⟩ hB5 hP5
def sp_space : Sp := fun vs H Q _ => ∃ (p q : Addr) (ns : List Int) (nd : Bool), vs = [.ref p, .bl nd] ∧ Pool H p q ns ∧ ∀ l H', (∀ c ∈ l, c = 32 ∨ c = 10) → l.length ≤ 4 → (nd = true → l ≠ []) → But p H H' → Pool H' p q ns → Q (.str (S l)) H'
theorem c__law_space {f : Addr} {fd : FuncData} (D : C8.Def K mg "_law_space" s__law_space f fd) (b : Binds K fd ["pool", "needed"] []) (c__law_take : C8.Cal P w K mg base 2 "_law_take" sp_take []) : C8.Cal P w K mg base 3 "_law_space" sp_space [] := by
  refine C8.cal0 D b .nil sc__law_space (fun vs H Q E h => ?_) (fun cdv A outer s H vs Q E hr h => ?_)
  · obtain ⟨_, _, _, _, rfl, _⟩ := h
    rfl
  · obtain ⟨p, q, ns, nd, rfl, hP, ok⟩ := h
    refine ⟨_, (pss_cons (ps_set (i := 2) sc__law_space.nd rfl (by first | exact Or.inl rfl | exact Or.inr rfl) (pe_ix (ixL K) (pe_lst (pa_cons pe_str (pa_cons pe_str (pa_cons pe_str (pa_cons pe_str (pa_cons pe_str (pa_cons pe_str pa_nil))))))) (C8.pe_c c__law_take hr (by decide) (by rfl) (pa_cons (pv 0) (pa_cons pe_int pa_nil))) (fun _ _ => rfl))) (pss_cons (ps_if (PW.pt (pw_and (pt_val (pv 1)) (pw_and1 (pt_cmpR (op_eq) (pv 2) pe_str (nomark _))))) (pss_one (ps_ret pe_str)) pss_nil) (pss_one (ps_ret (pv 2))))), ?_⟩
    walk_at "rd"
    refine ⟨by show 6 ≤ sizeLine; decide, fun l1 hl1 => menu hP hl1 6 rfl (by decide) (by decide) fun v H1 hv hB1 hP1 => ?_⟩
    obtain ⟨nm, hnm, rfl⟩ : ∃ nm ∈ SPS, vS (cs nm) = v := List.mem_map.mp (show v ∈ SPS.map fun s => vS (cs s) from hv)
    obtain ⟨h1, h2⟩ := sps_ok nm hnm
    refine ite2 (fun hn => ⟨rfl, ite2 (fun he => ?_) (fun he => ?_)⟩) (fun hn => ?_)
    · exact ok _ _ (by decide +kernel) (by decide +kernel) (fun _ => by decide +kernel) hB1 hP1
    · refine ok _ _ h1 h2 (fun _ e0 => he ?_) hB1 hP1
      show V.str (S (cs nm)) = _
      rw [e0]
      rfl
    · exact ok _ _ h1 h2 (fun e => absurd e hn) hB1 hP1
def sp_joins : Sp := fun vs H Q _ => ∃ (a b : List Nat) (x y : Nat) (a' b' : List Nat), vs = [.str (S a), .str (S b)] ∧ a = a' ++ [x] ∧ b = y :: b' ∧ a.length ≤ 1000 ∧ b.length ≤ 1000 ∧ ∀ H', Same H H' → Q (.bl (joins a b)) H'
theorem c__law_joins {f : Addr} {fd : FuncData} (D : C8.Def K mg "_law_joins" s__law_joins f fd) (b : Binds K fd ["left", "right"] []) (c__law_signs : C8.Cal P w K mg base 1 "_law_signs" sp_signs []) (z_len : mg "len" = none) : C8.Cal P w K mg base 2 "_law_joins" sp_joins [] := by
  refine C8.cal0 D b .nil sc__law_joins (fun vs H Q E h => ?_) (fun cdv A outer s H vs Q E hr h => ?_)
  · obtain ⟨_, _, _, _, _, _, rfl, _⟩ := h
    rfl
  · obtain ⟨a, b, x, y, a', b', rfl, ea, eb, la, lb, ok⟩ := h
    refine ⟨_, (C8.pss_cut (ps_if (PW.pt (pw_and (pt_val (pe_m0 PySem.F.slot_str_isalnum PySem.F.type_str_isalnum mt_isalnum (pe_ix ix_str (pv 0) (pe_un un_neg pe_int) (fun _ _ => rfl)))) (pw_and1 (pt_val (pe_m0 PySem.F.slot_str_isalnum PySem.F.type_str_isalnum mt_isalnum (pe_ix ix_str (pv 1) pe_int (fun _ _ => rfl))))))) (pss_one (ps_ret pe_bl)) pss_nil) (pss_cons (ps_for PassesOwn.never rfl (piL K (pe_c0 c__law_signs hr (by decide) (by rfl))) (pg_name (i := 2) sc__law_joins.nd rfl (by first | exact Or.inl rfl | exact Or.inr rfl)) (pss_one (ps_if (PW.pt (pw_and (pt_cmpR (op_gt) (pe_callB call_len_str (by rfl) z_len PySem.boot_len (pa_cons (pv 2) pa_nil)) (pe_callB call_len_str (by rfl) z_len PySem.boot_len (pa_cons (pv 0) pa_nil)) (nomark _)) (pw_and (pt_val (pe_m1 PySem.F.slot_str_startswith PySem.F.type_str_startswith mt_startswith (pv 2) (pv 0))) (pw_and1 (pt_val (pe_m1 PySem.F.slot_str_startswith PySem.F.type_str_startswith mt_startswith (pe_op op_add_str (pv 0) (pv 1)) (pv 2))))))) (pss_one (ps_ret pe_bl)) pss_nil))) (pss_one (ps_ret pe_bl)))), ?_⟩
    walk_at "rd"
    obtain ⟨M, hM⟩ : ∃ M : L2.St → Hp → Prop, M = fun σ' H' => (isAN x && isAN y) = false ∧ σ' = [some (.str (S a)), some (.str (S b)), none] ∧ H' = H := ⟨_, rfl⟩
    refine ⟨M, ?_, fun σ' H' hm => ?_⟩
    · walk_at "rd"
      have ea2 : atI a (-1) = some x := by rw [ea]; exact atI_last _ _
      have eb2 : atI b 0 = some y := by rw [eb]; exact atI_nat (j := 0) rfl
      refine ⟨small (by omega), x, ea2, ?_⟩
      refine ite2 (fun h1 => ⟨small (by omega), y, eb2, ?_⟩) (fun h1 => ?_)
      · refine ite2 (fun h2 => ?_) (fun h2 => ?_)
        · have ej : joins a b = true := by
            unfold joins
            rw [ea, eb]
            simp [h1, h2]
          rw [← ej]
          exact ok H (Same.refl H)
        · rw [hM]
          exact ⟨by simp [h1, h2], rfl, rfl⟩
      · rw [hM]
        exact ⟨by simp [h1], rfl, rfl⟩
    · rw [hM] at hm
      obtain ⟨han, rfl, rfl⟩ := hm
      walk_at "rd"
      refine ⟨rfl, fun r H1 sm hr0 hr1 => ⟨r, rfl, ⟨_, SqL.of hr1⟩, ?_⟩⟩
      obtain ⟨Pv, hPv⟩ : ∃ Pv : Nat → L2.St → Hp → Prop, Pv = fun i σ H2 => ∃ k, σ = [some (.str (S a)), some (.str (S b)), k] ∧ H1 = H2 ∧ (SGN.take i).any (fun s => decide (a.length < s.length) && pfx a s && pfx s (a ++ b)) = false := ⟨_, rfl⟩
      refine for_list (xs := SGN.map vS) Pv ?_ ?_ ?_ ?_
      · rw [hPv]
        exact ⟨none, rfl, rfl, rfl⟩
      · rw [hPv]
        rintro i σ H2 hi ⟨k, rfl, rfl, _⟩
        exact SqL.of hr1
      · intro i v σ H2 hv hp
        rw [hPv] at hp
        obtain ⟨k, rfl, rfl, hany⟩ := hp
        rw [List.getElem?_map] at hv
        obtain ⟨s, hs, rfl⟩ := Option.map_eq_some_iff.mp hv
        have hsm : s ∈ SGN := List.mem_of_getElem? hs
        have hsl : s.length ≤ 3 := sgn_len s hsm
        unfold vS
        walk_at "rd"
        have hnext : (decide (a.length < s.length) && pfx a s && pfx s (a ++ b)) = false → Pv (i + 1) [some (.str (S a)), some (.str (S b)), some (.str (S s))] H1 := by
          intro h
          rw [hPv]
          refine ⟨_, rfl, rfl, ?_⟩
          rw [List.take_add_one, hs, List.any_append, hany]
          simp [h]
        have hstop : (decide (a.length < s.length) && pfx a s && pfx s (a ++ b)) = true → Q (V.bl true) H1 := by
          intro h
          have ej : joins a b = true := by
            unfold joins
            rw [List.any_eq_true.mpr ⟨s, hsm, h⟩]
            simp
          rw [← ej]
          exact ok _ sm
        refine ⟨small (by omega), small (by omega), ite2 (fun h1 => ite2 (fun h2 => ⟨small (by omega), ite2 (fun h3 => hstop ?_) (fun h3 => hnext ?_)⟩) (fun h2 => hnext ?_)) (fun h1 => hnext ?_)⟩
        · have h1' : a.length < s.length := by omega
          simp [h1', h2, h3]
        · simp [h3]
        · simp [h2]
        · have h1' : ¬ a.length < s.length := by omega
          simp [h1']
      · intro σ H2 hp
        rw [hPv] at hp
        obtain ⟨k, rfl, rfl, hany⟩ := hp
        walk_at "rd"
        rw [List.length_map, List.take_length] at hany
        have ej : joins a b = false := by
          unfold joins
          rw [hany, ea, eb]
          simpa using han
        rw [← ej]
        exact ok _ sm

end
end
section
local macro_rules | `(tactic| walk_at "rd") => `(tactic| simp only [tSeq, tNext, tAsg, gName, tRet, tRetN, tIfS, tDrop, tVar, tC, tOp, tUn, tTest, tCB, tCons, tNil, tB, tAnd, tOr, tNot, tAndV, tOrV, tNotV, tIf, tCall, tTup, tLst, tSl, tPart, tNoPart, tM0, tM1, tBM, tChain, tBreak, tCont, tNever, tAug, ipI, tPar, tyV_str,
  tFor_eq, tLc_eq, tMkO, tYes, wipe, ofStr_S, S_cat, one_S, len_S, S_iff, S_cps, Int.zero_add, gNil, gCons, gTup, gSub, iRng1, iRng2, iList, iTup, iStr, rI0, rI, rU, rEq, rNe, rIxL, rIxT, rIxS, Dw.rLen, rListOf, rTupOf, rNotB, rIsB, rMulS, rIn, rCat, rAppend, rCatA, rEqD, rNeD, C8.rSlX, tDGet, tDGet2, tDIn, tDNotIn, rSetD, rAll, rKIn, tBM0, rPop, rExtend, tAddT, rAddT, rSetT0, Dw.rSetL, rSortT, StX.tStar, tDNewK, tDisp, tPairs, L2.start, cxOf_K, cxOf_w, cxOf_prog,
  List.map_cons, List.map_nil, List.length_cons, List.length_nil, List.replicate, List.cons_append, List.nil_append, Nat.reduceAdd, Nat.reduceSub, Nat.zero_add, List.append_nil,
  List.set_cons_zero, List.set_cons_succ, List.getElem?_cons_zero, List.getElem?_cons_succ, Option.some.injEq, V.int.injEq, V.bl.injEq, V.ref.injEq, V.str.injEq, V.ty.injEq, List.cons.injEq, and_true, true_and, reduceCtorEq, false_and, exists_false, or_false, false_or, exists_eq_left, exists_eq_left', exists_eq', sw_S, an_S, exists_and_left, exists_const, exists_eq, decide_eq_true_eq, Bool.false_eq_true, if_true, if_false, Bool.not_eq_true', decide_eq_false_iff_not, Bool.not_true, Bool.not_false, ite_not, scal, and_false])
section
variable {P : Program} {w : World} {K : PySem.W.Frag} {mg : Str → Option Value} {base : Heap}
theorem put_spec {D : Prs} {z : Str} {i : Int} (nd : (keys D).Nodup) : (keys (put D z i)).Nodup ∧ (∀ y, y ∈ keys (put D z i) ↔ y ∈ keys D ∨ y = z) ∧ (put D z i).length ≤ D.length + 1 ∧ ∀ e ∈ put D z i, e ∈ D ∨ e = (z, i) := by
  have h := add1_keys (p := (z, i - (look D z).getD 0)) nd
  have e : add1 D (z, i - (look D z).getD 0) = put D z i := by
    show put D z ((look D z).getD 0 + (i - (look D z).getD 0)) = _
    congr 1
    omega
  rw [e] at h
  refine ⟨h.1, h.2.1, h.2.2, fun x hx => ?_⟩
  unfold put at hx
  split at hx
  · obtain ⟨y, hy, rfl⟩ := List.mem_map.mp hx
    by_cases q : y.1 = z
    · rw [if_pos q]
      exact .inr (by rw [q])
    · rw [if_neg q]
      exact .inl hy
  · rcases List.mem_append.mp hx with q | q
    · exact .inl q
    · exact .inr (List.mem_singleton.mp q)
theorem look_mem {D : Prs} {z : Str} {i : Int} (h : look D z = some i) : (z, i) ∈ D := by
  unfold look at h
  obtain ⟨e, he, rfl⟩ := Option.map_eq_some_iff.mp h
  have h1 := List.mem_of_find?_eq_some he
  have h2 : e.1 = z := by
    have := List.find?_some (p := fun p : Str × Int => decide (p.1 = z)) he
    exact of_decide_eq_true this
  rw [← h2]
  exact h1
def sp_term : Sp := fun vs H Q _ => ∃ (p q : Addr) (ns : List Int) (N : Addr) (ls : List (List Nat)), vs = [.ref p, .ref N] ∧ Pool H p q ns ∧ N ≠ p ∧ H N = some (.lst ((ls.map S).map V.str)) ∧ 0 < ls.length ∧ ls.length ≤ 10 ∧ (∀ l ∈ ls, GName l) ∧
  ∀ (t : Addr) (ps : Prs) (c : Int) H', But p H H' → Pool H' p q ns → H t = none → TermAt H' t ps c → (Fm.cmp true ps c).Good → (∀ x ∈ ps, x.1 ∈ ls.map S) → Q (.ref t) H'
theorem c__law_term {f : Addr} {fd : FuncData} (D : C8.Def K mg "_law_term" s__law_term f fd) (b : Binds K fd ["pool", "names"] []) (c__law_take : C8.Cal P w K mg base 2 "_law_take" sp_take []) (z_range : mg "range" = none) (z_len : mg "len" = none) (z_sorted : mg "sorted" = none) (z_tuple : mg "tuple" = none) : C8.Cal P w K mg base 3 "_law_term" sp_term [] := by
  refine C8.cal0 D b .nil sc__law_term (fun vs H Q E h => ?_) (fun cdv A outer s H vs Q E hr h => ?_)
  · obtain ⟨_, _, _, _, _, rfl, _⟩ := h
    rfl
  · obtain ⟨p, q, ns, N, ls, rfl, hP, hNp, hN0, z0, z1, hg, ok⟩ := h
    refine ⟨_, (pss_cons (ps_set (i := 2) sc__law_term.nd rfl (by first | exact Or.inl rfl | exact Or.inr rfl) pe_dnewK) (pss_cons (ps_for PassesOwn.never rfl (pi_range1 (by rfl) z_range (pa_cons (C8.pe_c c__law_take hr (by decide) (by rfl) (pa_cons (pv 0) (pa_cons pe_int pa_nil))) pa_nil)) (pg_name (i := 3) sc__law_term.nd rfl (by first | exact Or.inl rfl | exact Or.inr rfl)) (pss_cons (ps_set (i := 4) sc__law_term.nd rfl (by first | exact Or.inl rfl | exact Or.inr rfl) (pe_ix (ixL K) (pv 1) (C8.pe_c c__law_take hr (by decide) (by rfl) (pa_cons (pv 0) (pa_cons (pe_callB (lenS K) (by rfl) z_len PySem.boot_len (pa_cons (pv 1) pa_nil)) pa_nil))) (fun _ _ => rfl))) (pss_one (ps_asg (pe_ix (ixL K) (pe_lst (pa_cons pe_int (pa_cons (pe_un un_neg pe_int) (pa_cons pe_int (pa_cons (pe_un un_neg pe_int) (pa_cons pe_int (pa_cons pe_int (pa_cons (pe_un un_neg pe_int) (pa_cons pe_int pa_nil))))))))) (C8.pe_c c__law_take hr (by decide) (by rfl) (pa_cons (pv 0) (pa_cons pe_int pa_nil))) (fun _ _ => rfl)) (pg_sub (pv 2) (pv 4) (set_dict (hu1 hr))))))) (pss_cons (ps_set (i := 5) sc__law_term.nd rfl (by first | exact Or.inl rfl | exact Or.inr rfl) (pe_ix (ixL K) (pe_lst (pa_cons pe_int (pa_cons pe_int (pa_cons pe_int (pa_cons (pe_un un_neg pe_int) (pa_cons pe_int (pa_cons (pe_un un_neg pe_int) (pa_cons pe_int (pa_cons (pe_un un_neg pe_int) pa_nil))))))))) (C8.pe_c c__law_take hr (by decide) (by rfl) (pa_cons (pv 0) (pa_cons pe_int pa_nil))) (fun _ _ => rfl))) (pss_one (ps_ret (pe_tup (pa_cons (pe_callTy (tupOf K) (by rfl) z_tuple (by decide +kernel) (pa_cons (pe_lc (own := [("name", 4)]) (g := (gName 4)) (tt := tYes) rfl sc__law_term.nd (piL K (pe_callB (call_sortedD rfl) (by rfl) z_sorted (by decide +kernel) (pa_cons (pv 2) pa_nil))) (blkOk_by (N := N__law_term) (sc := C8.fnScope s__law_term) (by decide +kernel)) (fun _ _ _ _ _ => (pg_name (i := 4) sc__law_term.nd rfl (by first | exact Or.inl rfl | exact Or.inr rfl))) (fun _ _ _ _ _ => pts_nil) (fun _ _ _ _ _ => (pe_tup (pa_cons (pv 4) (pa_cons (pe_dget (hu1 hr) (pv 2) (pv 4) (fun _ _ => rfl)) pa_nil))))) pa_nil)) (pa_cons (pv 5) pa_nil)))))))), ?_⟩
    walk_at "rd"
    intro D hD
    have hDp : D ≠ p := hP.ne hD
    have hDq : D ≠ q := hP.neq hD
    refine ⟨p, q, ns, 4, rfl, hP.same (same_upd hD), by decide, by decide, fun u H3 u0 u1 hB3 hP3 => ⟨_, rfl, by omega, by omega, ?_⟩⟩
    refine for_rangeN (fun i σ H4 => ∃ (E : Prs) (x y : Option V), σ = [some (V.ref p), some (V.ref N), some (V.ref D), x, y, none] ∧ H4 D = some (.dK (E.map ent)) ∧ (keys E).Nodup ∧ E.length ≤ i ∧ (∀ e ∈ E, e.1 ∈ ls.map S ∧ okC e.2 = true ∧ e.2 ≠ 0) ∧ Pool H4 p q ns ∧ But p H H4) ?_ ?_ ?_
    · exact ⟨[], none, none, rfl, hB3 D _ hDp upd_same, List.nodup_nil, Nat.le_refl _, (fun _ h => nomatch h), hP3, (But.of (same_upd hD)).trans hB3⟩
    · rintro i σ H4 M hi ⟨E, x, y, rfl, h4, nd, hl, he, hP4, hB4⟩ hM
      walk_at "rd"
      have hN4 := hB4 N _ hNp hN0
      refine ⟨_, .inl (SqL.of hN4), p, q, ns, _, rfl, hP4, by rw [List.length_map, List.length_map]; omega, by rw [List.length_map, List.length_map]; omega, fun e H5 e0 e1 hB5 hP5 => ?_⟩
      obtain ⟨zv, hat, hzm⟩ := at_mem (xs := (ls.map S).map V.str) e0 e1
      obtain ⟨z, hz, rfl⟩ := List.mem_map.mp hzm
      refine ⟨_, e, rfl, SqL.of (hB5 N _ hNp hN4), .str z, hat, by show 8 ≤ sizeLine; decide, fun l3 hl3 => menu hP5 hl3 8 rfl (by decide) (by decide) fun v H6 hv hB6 hP6 => ?_⟩
      obtain ⟨n, rfl, n0, n1⟩ : ∃ n : Int, v = .int n ∧ okC n = true ∧ n ≠ 0 := by
        simp only [List.mem_cons, List.not_mem_nil, or_false] at hv
        rcases hv with h | h | h | h | h | h | h | h <;> exact ⟨_, h, by decide, by decide⟩
      have h6 := hB6 D _ hDp (hB5 D _ hDp h4)
      refine ⟨_, DPut.k (k := Sum.inr z) h6 (by rw [List.length_map]; exact smallt (by omega)), ?_⟩
      rw [put_ent]
      obtain ⟨k1, k2, k3, k4⟩ := put_spec (D := E) (z := z) (i := n) nd
      refine hM _ _ ⟨put E z n, _, _, rfl, upd_same, k1, by omega, fun x hx => ?_, hP6.set hDp hDq, ((hB4.trans hB5).trans hB6).new hD⟩
      rcases k4 x hx with h | h
      · exact he x h
      · rw [h]
        exact ⟨hz, n0, n1⟩
    · rintro σ H4 ⟨E, x, y, rfl, h4, nd, hl, he, hP4, hB4⟩
      walk_at "rd"
      refine ⟨by show 8 ≤ sizeLine; decide, fun l3 hl3 => menu hP4 hl3 8 rfl (by decide) (by decide) fun v H5 hv hB5 hP5 => ?_⟩
      obtain ⟨c, rfl, hc⟩ : ∃ n : Int, v = .int n ∧ okC n = true := by
        simp only [List.mem_cons, List.not_mem_nil, or_false] at hv
        rcases hv with h | h | h | h | h | h | h | h <;> exact ⟨_, h, by decide⟩
      have h5 := hB5 D _ hDp h4
      have hB5' := hB4.trans hB5
      have kl : (keys E).length = E.length := by simp [keys]
      refine ⟨_, .of h5, keys E, by simp [keys, ent], by omega, fun ys Y hperm hsort hY => ?_⟩
      have hyl : ys.length ≤ 4 := by
        rw [hperm.length_eq]
        omega
      obtain ⟨HY, hHY⟩ : ∃ HY, HY = upd H5 Y (.lst (ys.map V.str)) := ⟨_, rfl⟩
      have sY : Same H5 HY := by
        rw [hHY]
        exact same_upd hY
      have hYY : HY Y = some (.lst (ys.map V.str)) := by rw [hHY, upd_same]
      rw [← hHY]
      refine ⟨⟨_, SqL.of hYY⟩, fun G hG => ?_⟩
      obtain ⟨F, hF⟩ : ∃ F : Str → Str × Int, F = fun z => (z, (look E z).getD 0) := ⟨_, rfl⟩
      refine lc_listN (xs := ys.map V.str) (fun i H6 => ∃ bs : List Addr, H6 G = some (.lst (bs.map V.ref)) ∧ PrsAt H6 bs ((ys.take i).map F) ∧ Same HY H6) ?_ ?_ ?_ ?_
      · exact ⟨[], upd_same, trivial, same_upd hG⟩
      · rintro i H6 _ ⟨bs, _, _, s6⟩
        exact SqL.of (s6 _ _ hYY)
      · rintro i x H6 M hx ⟨bs, h6, p6, s6⟩ hM
        rw [List.getElem?_map] at hx
        obtain ⟨z, hz, rfl⟩ := Option.map_eq_some_iff.mp hx
        obtain ⟨v, hv⟩ := look_some (hperm.mem_iff.mp (List.mem_of_getElem? hz))
        have hil := (List.getElem?_eq_some_iff.mp hz).1
        have hbl := p6.len
        rw [List.length_map, List.length_take] at hbl
        have hget : DGet H6 D (.str z) (some (.int v)) := by
          have e := DGet.k (k := Sum.inr z) (s6 _ _ (sY _ _ h5))
          rw [val_ent, hv] at e
          exact e
        walk_at "rd"
        refine ⟨.int v, hget, by decide, fun T hT => ⟨_, (same_upd hT) _ _ h6, smallt (by rw [List.length_map]; omega), hM _ ⟨bs ++ [T], ?_, ?_, ?_⟩⟩⟩
        · rw [upd_same, List.map_append]
          rfl
        · have hTG : T ≠ G := (ne_of_none h6 hT).symm
          rw [List.take_add_one, hz, List.map_append]
          refine PrsAt.snoc (PrsAt.keep ?_ But.upd (p6.same (same_upd hT))) ?_
          · intro x y e
            rw [(same_upd hT) _ _ h6] at e
            cases e
          · have e : F z = (z, v) := by rw [hF]; simp [hv]
            rw [upd_ne hTG, upd_same]
            show some (HO.tup [V.str z, V.int v]) = some (HO.tup [V.str (F z).1, V.int (F z).2])
            rw [e]
        · exact Dw.Same.new (s6.trans (same_upd hT)) hG
      · rintro H6 ⟨bs, h6, p6, s6⟩
        rw [List.length_map, List.take_length] at p6
        have hkF : keys (ys.map F) = ys := by
          unfold keys
          rw [List.map_map, hF]
          show ys.map (fun z => z) = ys
          rw [List.map_id']
        have hin : ∀ x ∈ ys.map F, x ∈ E := fun x hx => by
          obtain ⟨z, hz, rfl⟩ := List.mem_map.mp hx
          obtain ⟨v, hv⟩ := look_some (hperm.mem_iff.mp hz)
          rw [hF]
          show (z, (look E z).getD 0) ∈ E
          rw [hv]
          exact look_mem hv
        have s56 := sY.trans s6
        refine ⟨_, .inl ⟨SqL.of h6, fun qa hqa => ⟨by decide, fun t ht => ?_⟩⟩⟩
        have ht0 : H6 t = none := by
          have hne : t ≠ qa := (ne_of_none upd_same ht).symm
          rw [upd_ne hne] at ht
          exact ht
        have sq := (same_upd (o := .tup (bs.map V.ref)) hqa).trans (same_upd (o := .tup [V.ref qa, V.int c]) ht)
        refine ok t (ys.map F) c _ (hB5'.trans (But.of (s56.trans sq))) ((hP5.same s56).same sq) ?_ ⟨qa, bs, upd_same, (same_upd ht) _ _ upd_same, p6.same sq⟩ ⟨?_, ?_, ?_, ?_, hc, ?_⟩ ?_
        · exact hB5'.free hP5 (s56.free ht0)
        · intro x hx
          obtain ⟨l, hl', e⟩ := List.mem_map.mp (he x (hin x hx)).1
          exact ⟨l, hg l hl', e.symm⟩
        · rw [hkF]
          exact hsort
        · rw [hkF]
          exact hperm.nodup_iff.mpr nd
        · exact fun x hx => (he x (hin x hx)).2
        · rw [List.length_map]
          omega
        · exact fun x hx => (he x (hin x hx)).1

end
end
section
local macro_rules | `(tactic| walk_at "rd") => `(tactic| simp only [tSeq, tNext, tAsg, gName, tRet, tRetN, tIfS, tDrop, tVar, tC, tOp, tUn, tTest, tCB, tCons, tNil, tB, tAnd, tOr, tNot, tAndV, tOrV, tNotV, tIf, tCall, tTup, tLst, tSl, tPart, tNoPart, tM0, tM1, tBM, tChain, tBreak, tCont, tNever, tAug, ipI, tPar, tyV_str,
  tFor_eq, tLc_eq, tMkO, tYes, wipe, ofStr_S, S_cat, one_S, len_S, S_iff, S_cps, Int.zero_add, gNil, gCons, gTup, gSub, iRng1, iRng2, iList, iTup, iStr, rI0, rI, rU, rEq, rNe, rIxL, rIxT, rIxS, Dw.rLen, rListOf, rTupOf, rNotB, rIsB, rMulS, rIn, rCat, rAppend, rCatA, rEqD, rNeD, C8.rSlX, tDGet, tDGet2, tDIn, tDNotIn, rSetD, rAll, rKIn, tBM0, rPop, rExtend, tAddT, rAddT, rSetT0, Dw.rSetL, rSortT, StX.tStar, tDNewK, tDisp, tPairs, L2.start, cxOf_K, cxOf_w, cxOf_prog,
  List.map_cons, List.map_nil, List.length_cons, List.length_nil, List.replicate, List.cons_append, List.nil_append, Nat.reduceAdd, Nat.reduceSub, Nat.zero_add, List.append_nil,
  List.set_cons_zero, List.set_cons_succ, List.getElem?_cons_zero, List.getElem?_cons_succ, Option.some.injEq, V.int.injEq, V.bl.injEq, V.ref.injEq, V.str.injEq, V.ty.injEq, List.cons.injEq, and_true, true_and, reduceCtorEq, false_and, exists_false, or_false, false_or, exists_eq_left, exists_eq_left', exists_eq', sw_S, an_S, exists_and_left, exists_const, exists_eq, decide_eq_true_eq, Bool.false_eq_true, if_true, if_false, Bool.not_eq_true', decide_eq_false_iff_not, Bool.not_true, Bool.not_false, ite_not, scal, and_false])
section
variable {P : Program} {w : World} {K : PySem.W.Frag} {mg : Str → Option Value} {base : Heap}
theorem pick {K : PySem.W.Frag} {H : Hp} {p q N : Addr} {ns : List Int} {ls : List (List Nat)} {Q : V → Hp → Prop} {E : XK} (hP : Pool H p q ns) (hNp : N ≠ p) (hN : H N = some (.lst ((ls.map S).map V.str))) (z0 : 0 < ls.length) (z1 : ls.length ≤ 10)
    (ok : ∀ l H', l ∈ ls → But p H H' → Pool H' p q ns → Q (.str (S l)) H') :
    ∃ x, (SqL K H N x ∨ SqT K H N x) ∧ sp_take [.ref p, .int (x.length : Nat)] H (fun y H2 => ∃ x x_1, y = V.int x_1 ∧ SqL K H2 N x ∧ ∃ x_2, atI x x_1 = some x_2 ∧ Q x_2 H2) E := by
  refine ⟨_, .inl (SqL.of hN), p, q, ns, _, rfl, hP, by rw [List.length_map, List.length_map]; omega, by rw [List.length_map, List.length_map]; omega, fun e H5 e0 e1 hB5 hP5 => ?_⟩
  obtain ⟨zv, hat, hzm⟩ := at_mem (xs := (ls.map S).map V.str) e0 e1
  obtain ⟨z, hz, rfl⟩ := List.mem_map.mp hzm
  obtain ⟨l, hl, rfl⟩ := List.mem_map.mp hz
  exact ⟨_, e, rfl, SqL.of (hB5 N _ hNp hN), _, hat, ok l H5 hl hB5 hP5⟩
theorem words_ok : ∀ s ∈ ["T", "W2", "BIG"], (∃ c r, cs s = c :: r ∧ c ∈ UPP) ∧ (∀ c ∈ cs s, c ∈ UPP ++ DIG) ∧ (cs s).length ≤ 12 := by
  intro s hs
  simp only [List.mem_cons, List.not_mem_nil, or_false] at hs
  rcases hs with rfl | rfl | rfl
  · exact ⟨⟨84, [], by decide +kernel, by decide +kernel⟩, by decide +kernel, by decide +kernel⟩
  · exact ⟨⟨87, [50], by decide +kernel, by decide +kernel⟩, by decide +kernel, by decide +kernel⟩
  · exact ⟨⟨66, [73, 71], by decide +kernel, by decide +kernel⟩, by decide +kernel, by decide +kernel⟩
theorem calls_ok : ∀ s ∈ ["near", "f", "odd2"], (∃ c r, cs s = c :: r ∧ c ∈ LOW) ∧ (∀ c ∈ cs s, c ∈ LOW ++ DIG) ∧ (cs s).length ≤ 12 ∧ cs s ∉ RES := by decide +kernel
def SpF : Nat → Sp
  | 0 => fun _ _ _ _ => False
  | n + 1 => fun vs H Q _ => ∃ (p q : Addr) (ns : List Int) (N : Addr) (ls : List (List Nat)), vs = [.ref p, .ref N, .int (n : Nat)] ∧ Pool H p q ns ∧ N ≠ p ∧ H N = some (.lst ((ls.map S).map V.str)) ∧ 0 < ls.length ∧ ls.length ≤ 10 ∧ (∀ l ∈ ls, GName l) ∧
    ∀ (t : Addr) (f : Fm) H', But p H H' → Pool H' p q ns → FmAt H' t f → f.Good → f.dep ≤ n → (∀ z ∈ allN f, z ∈ ls.map S) → Q (.ref t) H'
theorem c__law_formula {f : Addr} {fd : FuncData} (D : C8.Def K mg "_law_formula" s__law_formula f fd) (b : Binds K fd ["pool", "names", "depth"] []) (c__law_take : C8.Cal P w K mg base 2 "_law_take" sp_take []) (c__law_term : C8.Cal P w K mg base 3 "_law_term" sp_term []) (z_range : mg "range" = none) (z_len : mg "len" = none) (z_tuple : mg "tuple" = none) : ∀ n : Nat, C8.Cal P w K mg base (n + 3) "_law_formula" (SpF n) []
  | 0 => C8.cal0 (k := 2) D b .nil sc__law_formula (fun vs H Q E h => h.elim) (fun cdv A outer s H vs Q E hr h => h.elim)
  | n + 1 => by
    have c__law_formula := c__law_formula D b c__law_take c__law_term z_range z_len z_tuple n
    refine C8.cal0 (k := n + 3) D b .nil sc__law_formula (fun vs H Q E h => ?_) (fun cdv A outer s H vs Q E hr h => ?_)
    · obtain ⟨_, _, _, _, _, rfl, _⟩ := h
      rfl
    · obtain ⟨p, q, ns, N, ls, rfl, hP, hNp, hN0, z0, z1, hg, ok⟩ := h
      refine ⟨_, (pss_cons (ps_set (i := 3) sc__law_formula.nd rfl (by first | exact Or.inl rfl | exact Or.inr rfl) (C8.pe_c c__law_take hr (by omega) (by rfl) (pa_cons (pv 0) (pa_cons pe_int pa_nil)))) (pss_cons (ps_if (PW.pt (pw_or (pt_cmpR (op_eq) (pv 2) pe_int (nomark _)) (pw_or1 (pt_cmpR (op_lt) (pv 3) pe_int (nomark _))))) (pss_cons (ps_if (pt_cmpR (op_eq) (pe_op op_mod (pv 3) pe_int) pe_int (nomark _)) (pss_one (ps_ret (pe_tup (pa_cons pe_str (pa_cons (pe_ix (ixL K) (pv 1) (C8.pe_c c__law_take hr (by omega) (by rfl) (pa_cons (pv 0) (pa_cons (pe_callB (lenS K) (by rfl) z_len PySem.boot_len (pa_cons (pv 1) pa_nil)) pa_nil))) (fun _ _ => rfl)) pa_nil))))) pss_nil) (pss_cons (ps_if (pt_cmpR (op_eq) (pe_op op_mod (pv 3) pe_int) pe_int (nomark _)) (pss_one (ps_ret (pe_tup (pa_cons pe_str (pa_cons (pe_ix (ixL K) (pe_lst (pa_cons pe_str (pa_cons pe_str (pa_cons pe_str pa_nil)))) (C8.pe_c c__law_take hr (by omega) (by rfl) (pa_cons (pv 0) (pa_cons pe_int pa_nil))) (fun _ _ => rfl)) (pa_cons (pe_ix (ixL K) (pv 1) (C8.pe_c c__law_take hr (by omega) (by rfl) (pa_cons (pv 0) (pa_cons (pe_callB (lenS K) (by rfl) z_len PySem.boot_len (pa_cons (pv 1) pa_nil)) pa_nil))) (fun _ _ => rfl)) (pa_cons (C8.pe_c c__law_take hr (by omega) (by rfl) (pa_cons (pv 0) (pa_cons pe_int pa_nil))) pa_nil))))))) pss_nil) (pss_one (ps_ret (pe_tup (pa_cons (pe_ix (ixL K) (pe_lst (pa_cons pe_str (pa_cons pe_str pa_nil))) (pe_op op_mod (pv 3) pe_int) (fun _ _ => rfl)) (pa_cons (C8.pe_c c__law_term hr (by omega) (by rfl) (pa_cons (pv 0) (pa_cons (pv 1) pa_nil))) pa_nil))))))) pss_nil) (pss_cons (ps_if (pt_cmpR (op_lt) (pv 3) pe_int (nomark _)) (pss_one (ps_ret (pe_tup (pa_cons pe_str (pa_cons (C8.pe_c c__law_formula hr (by omega) (by rfl) (pa_cons (pv 0) (pa_cons (pv 1) (pa_cons (pe_op op_sub (pv 2) pe_int) pa_nil)))) pa_nil))))) pss_nil) (pss_cons (ps_if (pt_cmpR (op_lt) (pv 3) pe_int (nomark _)) (pss_one (ps_ret (pe_tup (pa_cons (pe_ix (ixL K) (pe_lst (pa_cons pe_str (pa_cons pe_str (pa_cons pe_str pa_nil)))) (pe_op op_sub (pv 3) pe_int) (fun _ _ => rfl)) (pa_cons (pe_ix (ixL K) (pv 1) (C8.pe_c c__law_take hr (by omega) (by rfl) (pa_cons (pv 0) (pa_cons (pe_callB (lenS K) (by rfl) z_len PySem.boot_len (pa_cons (pv 1) pa_nil)) pa_nil))) (fun _ _ => rfl)) (pa_cons (C8.pe_c c__law_formula hr (by omega) (by rfl) (pa_cons (pv 0) (pa_cons (pv 1) (pa_cons (pe_op op_sub (pv 2) pe_int) pa_nil)))) pa_nil)))))) pss_nil) (pss_cons (ps_if (pt_cmpR (op_eq) (pv 3) pe_int (nomark _)) (pss_cons (ps_setLc (i := 4) (own := [("k", 7)]) (g := (gName 7)) (tt := tYes) rfl sc__law_formula.nd rfl rfl (sw_true rfl rfl rfl (by decide +kernel)) (pi_range1 (by rfl) z_range (pa_cons (pe_op op_add pe_int (C8.pe_c c__law_take hr (by omega) (by rfl) (pa_cons (pv 0) (pa_cons pe_int pa_nil)))) pa_nil)) (blkOk_by (N := N__law_formula) (sc := C8.fnScope s__law_formula) (by decide +kernel)) (fun _ _ _ _ _ => (pg_name (i := 7) sc__law_formula.nd rfl (by first | exact Or.inl rfl | exact Or.inr rfl))) (fun _ _ _ _ _ => pts_nil) (fun _ _ _ _ _ => (pe_ix (ixL K) (pv 1) (C8.pe_c c__law_take hr (by omega) (by rfl) (pa_cons (pv 0) (pa_cons (pe_callB (lenS K) (by rfl) z_len PySem.boot_len (pa_cons (pv 1) pa_nil)) pa_nil))) (fun _ _ => rfl)))) (pss_one (ps_ret (pe_tup (pa_cons pe_str (pa_cons (pe_ix (ixL K) (pe_lst (pa_cons pe_str (pa_cons pe_str (pa_cons pe_str pa_nil)))) (C8.pe_c c__law_take hr (by omega) (by rfl) (pa_cons (pv 0) (pa_cons pe_int pa_nil))) (fun _ _ => rfl)) (pa_cons (pe_callTy (tupOf K) (by rfl) z_tuple (by decide +kernel) (pa_cons (pv 4) pa_nil)) pa_nil))))))) pss_nil) (pss_cons (ps_set (i := 5) sc__law_formula.nd rfl (by first | exact Or.inl rfl | exact Or.inr rfl) (pe_ix (ixL K) (pe_lst (pa_cons pe_str (pa_cons pe_str (pa_cons pe_str (pa_cons pe_str pa_nil))))) (pe_op op_sub (pv 3) pe_int) (fun _ _ => rfl))) (pss_cons (ps_set (i := 6) sc__law_formula.nd rfl (by first | exact Or.inl rfl | exact Or.inr rfl) (C8.pe_c c__law_formula hr (by omega) (by rfl) (pa_cons (pv 0) (pa_cons (pv 1) (pa_cons (pe_op op_sub (pv 2) pe_int) pa_nil))))) (pss_one (ps_ret (pe_tup (pa_cons (pv 5) (pa_cons (pv 6) (pa_cons (C8.pe_c c__law_formula hr (by omega) (by rfl) (pa_cons (pv 0) (pa_cons (pv 1) (pa_cons (pe_op op_sub (pv 2) pe_int) pa_nil)))) pa_nil))))))))))))), ?_⟩
      walk_at "rd"
      refine ⟨p, q, ns, 14, rfl, hP, by decide, by decide, fun c H1 c0 c1 hB1 hP1 => ?_⟩
      have hN1 := hB1 N _ hNp hN0
      refine ite2 (fun hn0 => ?_) (fun hn0 => ⟨c, rfl, ite2 (fun hc4 => ?_) (fun hc4 => ⟨c, rfl, ite2 (fun hc6 => ?_) (fun hc6 => ⟨c, rfl, ite2 (fun hc9 => ?_) (fun hc9 => ⟨rfl, ite2 (fun hcc => ?_) (fun hcc => ?_)⟩)⟩)⟩)⟩)
      · refine ⟨c, rfl, by decide, ite2 (fun h0 => ?_) (fun h0 => ⟨c, rfl, by decide, ite2 (fun h1 => ?_) (fun h1 => ?_)⟩)⟩
        · exact pick hP1 hNp hN1 z0 z1 fun l H2 hl hB2 hP2 => ⟨by decide, fun t ht => ok t (.pow l) _ ((hB1.trans hB2).upd2 ht) (hP2.same (same_upd ht)) upd_same (hg l hl) (Nat.zero_le _) (nm1 hl)⟩
        · refine ⟨by show 3 ≤ sizeLine; decide, fun l3 hl3 => menu hP1 hl3 3 rfl (by decide) (by decide) fun v H2 hv hB2 hP2 => ?_⟩
          obtain ⟨w, hw, rfl⟩ : ∃ w ∈ ["T", "W2", "BIG"], vS (cs w) = v := List.mem_map.mp (show v ∈ ["T", "W2", "BIG"].map fun s => vS (cs s) from hv)
          obtain ⟨w1, w2, w3⟩ := words_ok w hw
          refine pick hP2 hNp (hB2 N _ hNp hN1) z0 z1 fun l H3 hl hB3 hP3 => ⟨p, q, ns, 10, rfl, hP3, by decide, by decide, fun o H4 o0 o1 hB4 hP4 => ⟨by decide, fun t ht => ?_⟩⟩
          exact ok t (.word (cs w) l o) _ ((((hB1.trans hB2).trans hB3).trans hB4).upd2 ht) (hP4.same (same_upd ht)) upd_same ⟨⟨w1, w2, w3⟩, hg l hl, o0, by omega⟩ (Nat.zero_le _) (nm1 hl)
        · refine ⟨by decide, fun l3 hl3 => ⟨_, rfl, by decide, _, SqL.of upd_same, ?_⟩⟩
          obtain ⟨kk, hat⟩ : ∃ kk : Bool, atI [V.str (S (cs "eq")), V.str (S (cs "le"))] (c % 2) = some (.str (S (kCmp kk))) := by
            have : c % 2 = 0 ∨ c % 2 = 1 := by omega
            rcases this with e | e
            · rw [e]; exact ⟨true, atI_nat (j := 0) rfl⟩
            · rw [e]; exact ⟨false, atI_nat (j := 1) rfl⟩
          refine ⟨_, hat, p, q, ns, N, ls, rfl, hP1.same (same_upd hl3), hNp, (same_upd hl3) _ _ hN1, z0, z1, hg, fun u ps cc H2 hB2 hP2 hu ht2 hgood hsub => ⟨by decide, fun t ht => ?_⟩⟩
          exact ok t (.cmp kk ps cc) _ ((hB1.trans ((But.of (same_upd hl3)).trans hB2)).upd2 ht) (hP2.same (same_upd ht)) ⟨u, upd_same, ht2.tups (Tups.same (same_upd ht))⟩ hgood (Nat.zero_le _) (nmK hsub)
      · refine ⟨c, rfl, by decide, ite2 (fun h0 => ?_) (fun h0 => ⟨c, rfl, by decide, ite2 (fun h1 => ?_) (fun h1 => ?_)⟩)⟩
        · exact pick hP1 hNp hN1 z0 z1 fun l H2 hl hB2 hP2 => ⟨by decide, fun t ht => ok t (.pow l) _ ((hB1.trans hB2).upd2 ht) (hP2.same (same_upd ht)) upd_same (hg l hl) (Nat.zero_le _) (nm1 hl)⟩
        · refine ⟨by show 3 ≤ sizeLine; decide, fun l3 hl3 => menu hP1 hl3 3 rfl (by decide) (by decide) fun v H2 hv hB2 hP2 => ?_⟩
          obtain ⟨w, hw, rfl⟩ : ∃ w ∈ ["T", "W2", "BIG"], vS (cs w) = v := List.mem_map.mp (show v ∈ ["T", "W2", "BIG"].map fun s => vS (cs s) from hv)
          obtain ⟨w1, w2, w3⟩ := words_ok w hw
          refine pick hP2 hNp (hB2 N _ hNp hN1) z0 z1 fun l H3 hl hB3 hP3 => ⟨p, q, ns, 10, rfl, hP3, by decide, by decide, fun o H4 o0 o1 hB4 hP4 => ⟨by decide, fun t ht => ?_⟩⟩
          exact ok t (.word (cs w) l o) _ ((((hB1.trans hB2).trans hB3).trans hB4).upd2 ht) (hP4.same (same_upd ht)) upd_same ⟨⟨w1, w2, w3⟩, hg l hl, o0, by omega⟩ (Nat.zero_le _) (nm1 hl)
        · refine ⟨by decide, fun l3 hl3 => ⟨_, rfl, by decide, _, SqL.of upd_same, ?_⟩⟩
          obtain ⟨kk, hat⟩ : ∃ kk : Bool, atI [V.str (S (cs "eq")), V.str (S (cs "le"))] (c % 2) = some (.str (S (kCmp kk))) := by
            have : c % 2 = 0 ∨ c % 2 = 1 := by omega
            rcases this with e | e
            · rw [e]; exact ⟨true, atI_nat (j := 0) rfl⟩
            · rw [e]; exact ⟨false, atI_nat (j := 1) rfl⟩
          refine ⟨_, hat, p, q, ns, N, ls, rfl, hP1.same (same_upd hl3), hNp, (same_upd hl3) _ _ hN1, z0, z1, hg, fun u ps cc H2 hB2 hP2 hu ht2 hgood hsub => ⟨by decide, fun t ht => ?_⟩⟩
          exact ok t (.cmp kk ps cc) _ ((hB1.trans ((But.of (same_upd hl3)).trans hB2)).upd2 ht) (hP2.same (same_upd ht)) ⟨u, upd_same, ht2.tups (Tups.same (same_upd ht))⟩ hgood (Nat.zero_le _) (nmK hsub)
      · obtain ⟨m, rfl⟩ : ∃ m, n = m + 1 := ⟨n - 1, by omega⟩
        rw [show ((m + 1 : Nat) : Int) - 1 = (m : Nat) by omega]
        exact ⟨p, q, ns, N, ls, rfl, hP1, hNp, hN1, z0, z1, hg, fun t1 f1 H2 hB2 hP2 hF1 hG1 hd1 hn1 => ⟨by decide, fun t ht =>
          ok t (.not f1) _ ((hB1.trans hB2).upd2 ht) (hP2.same (same_upd ht)) ⟨t1, upd_same, hF1.tups (Tups.same (same_upd ht))⟩ hG1 (Nat.succ_le_succ hd1) hn1⟩⟩
      · obtain ⟨m, rfl⟩ : ∃ m, n = m + 1 := ⟨n - 1, by omega⟩
        rw [show ((m + 1 : Nat) : Int) - 1 = (m : Nat) by omega]
        refine ⟨by show 3 ≤ sizeLine; decide, fun l3 hl3 => ⟨_, rfl, _, SqL.of upd_same, ?_⟩⟩
        obtain ⟨kk, hat⟩ : ∃ kk : Bool, atI [V.str (S (cs "some")), V.str (S (cs "all")), V.str (S (cs "some"))] (c - 6) = some (.str (S (kQf kk))) := by
          have : c - 6 = 0 ∨ c - 6 = 1 ∨ c - 6 = 2 := by omega
          rcases this with e | e | e
          · rw [e]; exact ⟨true, atI_nat (j := 0) rfl⟩
          · rw [e]; exact ⟨false, atI_nat (j := 1) rfl⟩
          · rw [e]; exact ⟨true, atI_nat (j := 2) rfl⟩
        refine ⟨_, hat, pick (hP1.same (same_upd hl3)) hNp ((same_upd hl3) _ _ hN1) z0 z1 fun l H2 hl hB2 hP2 => ?_⟩
        refine ⟨p, q, ns, N, ls, rfl, hP2, hNp, hB2 N _ hNp ((same_upd hl3) _ _ hN1), z0, z1, hg, fun t1 f1 H3 hB3 hP3 hF1 hG1 hd1 hn1 => ⟨by decide, fun t ht => ?_⟩⟩
        exact ok t (.qf kk l f1) _ (((hB1.trans ((But.of (same_upd hl3)).trans hB2)).trans hB3).upd2 ht) (hP3.same (same_upd ht)) ⟨t1, upd_same, hF1.tups (Tups.same (same_upd ht))⟩ ⟨hg l hl, hG1⟩ (Nat.succ_le_succ hd1) (nmQ hl hn1)
      · refine ⟨p, q, ns, 3, rfl, hP1, by decide, by decide, fun u H2 u0 u1 hB2 hP2 => ⟨_, rfl, by omega, by omega, fun G hG => ?_⟩⟩
        have hGp : G ≠ p := hP2.ne hG
        have hGq : G ≠ q := hP2.neq hG
        obtain ⟨cnt, hcnt⟩ : ∃ cnt : Nat, cnt = (1 + u).toNat := ⟨_, rfl⟩
        rw [← hcnt]
        have hc3 : 1 ≤ cnt ∧ cnt ≤ 3 := by omega
        refine lc_rangeN (fun i H3 => ∃ gs : List (List Nat), gs.length = i ∧ (∀ l ∈ gs, l ∈ ls) ∧ H3 G = some (.lst (gs.map vS)) ∧ But p H2 H3 ∧ Pool H3 p q ns) ?_ ?_ ?_
        · exact ⟨[], rfl, (fun _ h => nomatch h), upd_same, But.of (same_upd hG), hP2.same (same_upd hG)⟩
        · rintro i H3 M hi ⟨gs, hl, hgs, h3, hB3, hP3⟩ hM
          walk_at "rd"
          refine pick hP3 hNp (hB3 N _ hNp (hB2 N _ hNp hN1)) z0 z1 fun l H4 hl4 hB4 hP4 => ⟨_, hB4 G _ hGp h3, smallt (by rw [List.length_map]; omega), hM _ ⟨gs ++ [l], by rw [List.length_append, hl]; rfl, fun x hx => ?_, ?_, (hB3.trans hB4).new hG, hP4.set hGp hGq⟩⟩
          · rcases List.mem_append.mp hx with h | h
            · exact hgs x h
            · rw [List.mem_singleton.mp h]; exact hl4
          · rw [upd_same, List.map_append]
            rfl
        · rintro H3 ⟨gs, hl, hgs, h3, hB3, hP3⟩
          refine ⟨by show 3 ≤ sizeLine; decide, fun l3 hl3 => menu hP3 hl3 3 rfl (by decide) (by decide) fun v H4 hv hB4 hP4 => ?_⟩
          obtain ⟨w, hw, rfl⟩ : ∃ w ∈ ["near", "f", "odd2"], vS (cs w) = v := List.mem_map.mp (show v ∈ ["near", "f", "odd2"].map fun s => vS (cs s) from hv)
          obtain ⟨w1, w2, w3, w4⟩ := calls_ok w hw
          refine ⟨_, .inl ⟨SqL.of (hB4 G _ hGp h3), fun l hl5 => ⟨by decide, fun t ht => ?_⟩⟩⟩
          exact ok t (.call (cs w) gs) _ (((((hB1.trans hB2).trans hB3).trans hB4).upd2 hl5).upd2 ht) ((hP4.same (same_upd hl5)).same (same_upd ht)) ⟨l, upd_same, (same_upd ht) _ _ upd_same⟩ ⟨⟨w1, w2, w3, w4⟩, (by intro e; rw [e] at hl; simp at hl; omega), by omega, fun z hz => hg z (hgs z hz)⟩ (Nat.zero_le _) (nmC hgs)
      · obtain ⟨m, rfl⟩ : ∃ m, n = m + 1 := ⟨n - 1, by omega⟩
        rw [show ((m + 1 : Nat) : Int) - 1 = (m : Nat) by omega]
        refine ⟨by show 4 ≤ sizeLine; decide, fun l3 hl3 => ⟨_, rfl, _, SqL.of upd_same, ?_⟩⟩
        obtain ⟨kk, hat⟩ : ∃ kk : Fin 4, atI [V.str (S (cs "and")), V.str (S (cs "or")), V.str (S (cs "imp")), V.str (S (cs "iff"))] (c - 10) = some (.str (S (kBin kk))) := by
          have hne : c ≠ 9 := fun e => hcc (by rw [e])
          have : c - 10 = 0 ∨ c - 10 = 1 ∨ c - 10 = 2 ∨ c - 10 = 3 := by omega
          rcases this with e | e | e | e
          · rw [e]; exact ⟨0, atI_nat (j := 0) rfl⟩
          · rw [e]; exact ⟨1, atI_nat (j := 1) rfl⟩
          · rw [e]; exact ⟨2, atI_nat (j := 2) rfl⟩
          · rw [e]; exact ⟨3, atI_nat (j := 3) rfl⟩
        refine ⟨_, hat, p, q, ns, N, ls, rfl, hP1.same (same_upd hl3), hNp, (same_upd hl3) _ _ hN1, z0, z1, hg, fun t1 f1 H2 hB2 hP2 hF1 hG1 hd1 hn1 => ?_⟩
        refine ⟨p, q, ns, N, ls, rfl, hP2, hNp, hB2 N _ hNp ((same_upd hl3) _ _ hN1), z0, z1, hg, fun t2 f2 H3 hB3 hP3 hF2 hG2 hd2 hn2 => ⟨by decide, fun t ht => ?_⟩⟩
        exact ok t (.bin kk f1 f2) _ (((hB1.trans ((But.of (same_upd hl3)).trans hB2)).trans hB3).upd2 ht) (hP3.same (same_upd ht)) ⟨t1, t2, upd_same, (hF1.tups (Tups.pool hP2 hB3)).tups (Tups.same (same_upd ht)), hF2.tups (Tups.same (same_upd ht))⟩ ⟨hG1, hG2⟩ (Nat.succ_le_succ (Nat.max_le.mpr ⟨hd1, hd2⟩)) (nmB hn1 hn2)

end
end
section
local macro_rules | `(tactic| walk_at "rd") => `(tactic| simp only [tSeq, tNext, tAsg, gName, tRet, tRetN, tIfS, tDrop, tVar, tC, tOp, tUn, tTest, tCB, tCons, tNil, tB, tAnd, tOr, tNot, tAndV, tOrV, tNotV, tIf, tCall, tTup, tLst, tSl, tPart, tNoPart, tM0, tM1, tBM, tChain, tBreak, tCont, tNever, tAug, ipI, tPar, tyV_str,
  tFor_eq, tLc_eq, tMkO, tYes, wipe, ofStr_S, S_cat, one_S, len_S, S_iff, S_cps, Int.zero_add, gNil, gCons, gTup, gSub, iRng1, iRng2, iList, iTup, iStr, rI0, rI, rU, rEq, rNe, rIxL, rIxT, rIxS, Dw.rLen, rListOf, rTupOf, rNotB, rIsB, rMulS, rIn, rCat, rAppend, rCatA, rEqD, rNeD, C8.rSlX, tDGet, tDGet2, tDIn, tDNotIn, rSetD, rAll, rKIn, tBM0, rPop, rExtend, tAddT, rAddT, rSetT0, Dw.rSetL, rSortT, StX.tStar, tDNewK, tDisp, tPairs, L2.start, cxOf_K, cxOf_w, cxOf_prog,
  List.map_cons, List.map_nil, List.length_cons, List.length_nil, List.replicate, List.cons_append, List.nil_append, Nat.reduceAdd, Nat.reduceSub, Nat.zero_add, List.append_nil,
  List.set_cons_zero, List.set_cons_succ, List.getElem?_cons_zero, List.getElem?_cons_succ, Option.some.injEq, V.int.injEq, V.bl.injEq, V.ref.injEq, V.str.injEq, V.ty.injEq, List.cons.injEq, and_true, true_and, reduceCtorEq, false_and, exists_false, or_false, false_or, exists_eq_left, exists_eq_left', exists_eq', sw_S, an_S, exists_and_left, exists_const, exists_eq, decide_eq_true_eq, Bool.false_eq_true, if_true, if_false, Bool.not_eq_true', decide_eq_false_iff_not, Bool.not_true, Bool.not_false, ite_not, scal, and_false])
section
variable {P : Program} {w : World} {K : PySem.W.Frag} {mg : Str → Option Value} {base : Heap}
def subs : Fm → List Fm
  | .not a => [a]
  | .bin _ a b => [a, b]
  | .qf _ _ a => [a]
  | _ => []
def hdF : Fm → List Nat
  | .pow _ => cs "pow"
  | .word _ _ _ => cs "word"
  | .cmp k _ _ => kCmp k
  | .call _ _ => cs "call"
  | .not _ => cs "not"
  | .bin k _ _ => kBin k
  | .qf k _ _ => kQf k
theorem fm_hd {H : Hp} {t : Addr} {f : Fm} (h : FmAt H t f) : ∃ xs, H t = some (.tup (.str (S (hdF f)) :: xs)) := by
  cases f with
  | pow z => exact ⟨_, h⟩
  | word w z o => exact ⟨_, h⟩
  | cmp k ps c => obtain ⟨u, h1, _⟩ := h; exact ⟨_, h1⟩
  | call f zs => obtain ⟨u, h1, _⟩ := h; exact ⟨_, h1⟩
  | not a => obtain ⟨u, h1, _⟩ := h; exact ⟨_, h1⟩
  | bin k a b => obtain ⟨u, v, h1, _⟩ := h; exact ⟨_, h1⟩
  | qf k z a => obtain ⟨u, h1, _⟩ := h; exact ⟨_, h1⟩
def FmsAt (H : Hp) : List Addr → List Fm → Prop
  | [], [] => True
  | a :: as, f :: fs => FmAt H a f ∧ FmsAt H as fs
  | _, _ => False
def sp_parts : Sp := fun vs H Q _ => ∃ (t : Addr) (f : Fm), vs = [.ref t] ∧ FmAt H t f ∧ ∀ (l : Addr) (as : List Addr) H', Same H H' → H l = none → H' l = some (.lst (as.map V.ref)) → FmsAt H' as (subs f) → Q (.ref l) H'
theorem kBin_in : ∀ k : Fin 4, ¬ kBin k = cs "not" ∧ kBin k ∈ [cs "and", cs "or", cs "imp", cs "iff"] := by decide +kernel
theorem kQf_in : ∀ k : Bool, ¬ kQf k = cs "not" ∧ kQf k ∉ [cs "and", cs "or", cs "imp", cs "iff"] ∧ kQf k ∈ [cs "some", cs "all"] := by decide +kernel
theorem kCmp_in : ∀ k : Bool, ¬ kCmp k = cs "not" ∧ kCmp k ∉ [cs "and", cs "or", cs "imp", cs "iff"] ∧ kCmp k ∉ [cs "some", cs "all"] := by decide +kernel
theorem kOth_in : ∀ s ∈ [cs "pow", cs "word", cs "call"], ¬ s = cs "not" ∧ s ∉ [cs "and", cs "or", cs "imp", cs "iff"] ∧ s ∉ [cs "some", cs "all"] := by decide +kernel
theorem c_parts {f : Addr} {fd : FuncData} (D : C8.Def K mg "parts" s_parts f fd) (b : Binds K fd ["formula"] []) {aJ : Addr} (g_JOINTS : ∃ u, mg "JOINTS" = some u ∧ RelV (.ref aJ) u) (kJ : KTabl K w aJ [cs "and", cs "or", cs "imp", cs "iff"]) {aQ : Addr} (g_QUANTIFIERS : ∃ u, mg "QUANTIFIERS" = some u ∧ RelV (.ref aQ) u) (kQ : ∀ H, SqT K H aQ ([cs "some", cs "all"].map vS)) : C8.Cal P w K mg base 1 "parts" sp_parts [] := by
  refine C8.cal0 D b .nil sc_parts (fun vs H Q E h => ?_) (fun cdv A outer s H vs Q E hr h => ?_)
  · obtain ⟨_, _, rfl, _⟩ := h
    rfl
  · obtain ⟨t, f1, rfl, hf, ok⟩ := h
    refine ⟨_, (pss_cons (ps_set (i := 1) sc_parts.nd rfl (by first | exact Or.inl rfl | exact Or.inr rfl) (pe_ix (ixT K) (pv 0) pe_int (fun _ _ => rfl))) (pss_cons (ps_if (pt_cmpR (op_eq) (pv 1) pe_str (nomark _)) (pss_one (ps_ret (pe_lst (pa_cons (pe_ix (ixT K) (pv 0) pe_int (fun _ _ => rfl)) pa_nil)))) pss_nil) (pss_cons (ps_if (pt_cmpR op_kIn (pv 1) (C8.pe_gc (by rfl) g_JOINTS) (by with_unfolding_all rfl)) (pss_one (ps_ret (pe_lst (pa_cons (pe_ix (ixT K) (pv 0) pe_int (fun _ _ => rfl)) (pa_cons (pe_ix (ixT K) (pv 0) pe_int (fun _ _ => rfl)) pa_nil))))) pss_nil) (pss_cons (ps_if (pt_cmpR (inQ K) (pv 1) (C8.pe_gc (by rfl) g_QUANTIFIERS) (by with_unfolding_all rfl)) (pss_one (ps_ret (pe_lst (pa_cons (pe_ix (ixT K) (pv 0) pe_int (fun _ _ => rfl)) pa_nil)))) pss_nil) (pss_one (ps_ret (pe_lst pa_nil))))))), ?_⟩
    walk_at "rd"
    obtain ⟨xs, hx⟩ := fm_hd hf
    refine ⟨_, SqT.of hx, _, atI_nat (j := 0) rfl, ?_⟩
    refine ⟨rfl, ?_⟩
    obtain ⟨hd, hhd⟩ : ∃ hd, hd = hdF f1 := ⟨_, rfl⟩
    rw [← hhd]
    have no : ∀ s : List Nat, ¬ s = cs "not" → ¬ V.str (S s) = V.str (S (cs "not")) := fun s h e => h (S_inj (V.str.inj e))
    have last : ∀ s : List Nat, s ∉ [cs "and", cs "or", cs "imp", cs "iff"] → (R : Prop) → (R2 : Prop) → R2 → (if s ∈ [cs "and", cs "or", cs "imp", cs "iff"] then R else R2) := fun s h R R2 r => by
      rw [if_neg h]
      exact r
    have leaf : ∀ s : List Nat, s ∉ [cs "some", cs "all"] → subs f1 = [] → ∀ R : Prop, ∃ x, (SqL K H aQ x ∨ SqT K H aQ x) ∧ flatV (V.str (S s)) = true ∧ x.all flatV = true ∧
        if inV (V.str (S s)) x = true then R else 0 ≤ sizeLine ∧ ∀ (p : Addr), H p = none → Q (V.ref p) (upd H p (HO.lst [])) := fun s h hs R => by
      refine ⟨_, .inr (kQ _), rfl, flat_S _, ?_⟩
      rw [inV_S, if_neg (by simpa using h)]
      exact ⟨Nat.zero_le _, fun l hl => ok l [] _ (same_upd hl) hl upd_same (by rw [hs]; trivial)⟩
    have oth := kOth_in
    cases f1 with
    | not a =>
      obtain ⟨u, h1, h2⟩ := hf
      rw [if_pos (by rw [hhd]; rfl)]
      exact ⟨_, SqT.of h1, _, atI_nat (j := 1) rfl, by decide, fun l hl => ok l [u] _ (same_upd hl) hl upd_same ⟨h2.tups (Tups.same (same_upd hl)), trivial⟩⟩
    | bin k a b =>
      obtain ⟨u, v, h1, h2, h3⟩ := hf
      rw [if_neg (no _ (by rw [hhd]; exact (kBin_in k).1))]
      refine ⟨_, _, rfl, kJ, ?_⟩
      rw [if_pos (by rw [hhd]; exact (kBin_in k).2)]
      exact ⟨_, SqT.of h1, _, atI_nat (j := 1) rfl, _, SqT.of h1, _, atI_nat (j := 2) rfl, by decide, fun l hl => ok l [u, v] _ (same_upd hl) hl upd_same ⟨h2.tups (Tups.same (same_upd hl)), h3.tups (Tups.same (same_upd hl)), trivial⟩⟩
    | qf k z a =>
      obtain ⟨u, h1, h2⟩ := hf
      rw [if_neg (no _ (by rw [hhd]; exact (kQf_in k).1))]
      refine ⟨_, _, rfl, kJ, last _ (by rw [hhd]; exact (kQf_in k).2.1) _ _ ⟨_, .inr (kQ _), rfl, flat_S _, ?_⟩⟩
      rw [inV_S, if_pos (decide_eq_true (by rw [hhd]; exact (kQf_in k).2.2))]
      exact ⟨_, SqT.of h1, _, atI_nat (j := 2) rfl, by decide, fun l hl => ok l [u] _ (same_upd hl) hl upd_same ⟨h2.tups (Tups.same (same_upd hl)), trivial⟩⟩
    | pow z =>
      rw [if_neg (no _ (by rw [hhd]; exact (oth (cs "pow") (by simp)).1))]
      exact ⟨_, _, rfl, kJ, last _ (by rw [hhd]; exact (oth (cs "pow") (by simp)).2.1) _ _ (leaf _ (by rw [hhd]; exact (oth (cs "pow") (by simp)).2.2) rfl _)⟩
    | word w z o =>
      rw [if_neg (no _ (by rw [hhd]; exact (oth (cs "word") (by simp)).1))]
      exact ⟨_, _, rfl, kJ, last _ (by rw [hhd]; exact (oth (cs "word") (by simp)).2.1) _ _ (leaf _ (by rw [hhd]; exact (oth (cs "word") (by simp)).2.2) rfl _)⟩
    | call f zs =>
      rw [if_neg (no _ (by rw [hhd]; exact (oth (cs "call") (by simp)).1))]
      exact ⟨_, _, rfl, kJ, last _ (by rw [hhd]; exact (oth (cs "call") (by simp)).2.1) _ _ (leaf _ (by rw [hhd]; exact (oth (cs "call") (by simp)).2.2) rfl _)⟩
    | cmp k ps c =>
      rw [if_neg (no _ (by rw [hhd]; exact (kCmp_in k).1))]
      exact ⟨_, _, rfl, kJ, last _ (by rw [hhd]; exact (kCmp_in k).2.1) _ _ (leaf _ (by rw [hhd]; exact (kCmp_in k).2.2) rfl _)⟩

end
end
section
local macro_rules | `(tactic| walk_at "rd") => `(tactic| simp only [tSeq, tNext, tAsg, gName, tRet, tRetN, tIfS, tDrop, tVar, tC, tOp, tUn, tTest, tCB, tCons, tNil, tB, tAnd, tOr, tNot, tAndV, tOrV, tNotV, tIf, tCall, tTup, tLst, tSl, tPart, tNoPart, tM0, tM1, tBM, tChain, tBreak, tCont, tNever, tAug, ipI, tPar, tyV_str,
  tFor_eq, tLc_eq, tMkO, tYes, wipe, ofStr_S, S_cat, one_S, len_S, S_iff, S_cps, Int.zero_add, gNil, gCons, gTup, gSub, iRng1, iRng2, iList, iTup, iStr, rI0, rI, rU, rEq, rNe, rIxL, rIxT, rIxS, Dw.rLen, rListOf, rTupOf, rNotB, rIsB, rMulS, rIn, rCat, rAppend, rCatA, rEqD, rNeD, C8.rSlX, tDGet, tDGet2, tDIn, tDNotIn, rSetD, rAll, rKIn, tBM0, rPop, rExtend, tAddT, rAddT, rSetT0, Dw.rSetL, rSortT, StX.tStar, tDNewK, tDisp, tPairs, L2.start, cxOf_K, cxOf_w, cxOf_prog,
  List.map_cons, List.map_nil, List.length_cons, List.length_nil, List.replicate, List.cons_append, List.nil_append, Nat.reduceAdd, Nat.reduceSub, Nat.zero_add, List.append_nil,
  List.set_cons_zero, List.set_cons_succ, List.getElem?_cons_zero, List.getElem?_cons_succ, Option.some.injEq, V.int.injEq, V.bl.injEq, V.ref.injEq, V.str.injEq, V.ty.injEq, List.cons.injEq, and_true, true_and, reduceCtorEq, false_and, exists_false, or_false, false_or, exists_eq_left, exists_eq_left', exists_eq', sw_S, an_S, exists_and_left, exists_const, exists_eq, decide_eq_true_eq, Bool.false_eq_true, if_true, if_false, Bool.not_eq_true', decide_eq_false_iff_not, Bool.not_true, Bool.not_false, ite_not, scal, and_false])
section
variable {P : Program} {w : World} {K : PySem.W.Frag} {mg : Str → Option Value} {base : Heap}
def own : Fm → List Str
  | .cmp _ ps _ => keys ps
  | .pow z => [S z]
  | .qf _ z _ => [S z]
  | .word _ z _ => [S z]
  | .call _ zs => zs.map S
  | _ => []
theorem kCmp_cm : ∀ k : Bool, kCmp k ∈ [cs "eq", cs "le"] := by decide +kernel
theorem kQf_cm : ∀ k : Bool, kQf k ∉ [cs "eq", cs "le"] ∧ ¬ kQf k = cs "pow" := by decide +kernel
theorem kBin_cm : ∀ k : Fin 4, kBin k ∉ [cs "eq", cs "le"] ∧ ¬ kBin k = cs "pow" ∧ kBin k ∉ [cs "some", cs "all"] ∧ ¬ kBin k = cs "word" ∧ ¬ kBin k = cs "call" := by decide +kernel
theorem not_cm : cs "not" ∉ [cs "eq", cs "le"] ∧ ¬ cs "not" = cs "pow" ∧ cs "not" ∉ [cs "some", cs "all"] ∧ ¬ cs "not" = cs "word" ∧ ¬ cs "not" = cs "call" := by decide +kernel
theorem oth_cm : cs "pow" ∉ [cs "eq", cs "le"] ∧ (cs "word" ∉ [cs "eq", cs "le"] ∧ ¬ cs "word" = cs "pow" ∧ cs "word" ∉ [cs "some", cs "all"]) ∧ (cs "call" ∉ [cs "eq", cs "le"] ∧ ¬ cs "call" = cs "pow" ∧ cs "call" ∉ [cs "some", cs "all"] ∧ ¬ cs "call" = cs "word") := by decide +kernel
def sp_own : Sp := fun vs H Q _ => ∃ (t : Addr) (f : Fm), vs = [.ref t] ∧ FmAt H t f ∧ f.Good ∧ ∀ (l : Addr) H', Same H H' → H l = none → H' l = some (.lst ((own f).map V.str)) → Q (.ref l) H'
theorem c_own_names {f : Addr} {fd : FuncData} (D : C8.Def K mg "own_names" s_own_names f fd) (b : Binds K fd ["formula"] []) {aC : Addr} (g_COMPARISONS : ∃ u, mg "COMPARISONS" = some u ∧ RelV (.ref aC) u) (kC : KTabl K w aC [cs "eq", cs "le"]) {aQ : Addr} (g_QUANTIFIERS : ∃ u, mg "QUANTIFIERS" = some u ∧ RelV (.ref aQ) u) (kQ : ∀ H, SqT K H aQ ([cs "some", cs "all"].map vS)) (z_list : mg "list" = none) : C8.Cal P w K mg base 1 "own_names" sp_own [] := by
  refine C8.cal0 D b .nil sc_own_names (fun vs H Q E h => ?_) (fun cdv A outer s H vs Q E hr h => ?_)
  · obtain ⟨_, _, rfl, _⟩ := h
    rfl
  · obtain ⟨t, f1, rfl, hf, hgd, ok⟩ := h
    refine ⟨_, (pss_cons (ps_set (i := 1) sc_own_names.nd rfl (by first | exact Or.inl rfl | exact Or.inr rfl) (pe_ix (ixT K) (pv 0) pe_int (fun _ _ => rfl))) (pss_cons (ps_if (pt_cmpR op_kIn (pv 1) (C8.pe_gc (by rfl) g_COMPARISONS) (by with_unfolding_all rfl)) (pss_one (ps_ret (pe_lc (own := [("pair", 2)]) (g := (gName 2)) (tt := tYes) rfl sc_own_names.nd (piT K (pe_ix (ixT K) (pe_ix (ixT K) (pv 0) pe_int (fun _ _ => rfl)) pe_int (fun _ _ => rfl))) (blkOk_by (N := N_own_names) (sc := C8.fnScope s_own_names) (by decide +kernel)) (fun _ _ _ _ _ => (pg_name (i := 2) sc_own_names.nd rfl (by first | exact Or.inl rfl | exact Or.inr rfl))) (fun _ _ _ _ _ => pts_nil) (fun _ _ _ _ _ => (pe_ix (ixT K) (pv 2) pe_int (fun _ _ => rfl)))))) pss_nil) (pss_cons (ps_if (PW.pt (pw_or (pt_cmpR (op_eq) (pv 1) pe_str (nomark _)) (pw_or1 (pt_cmpR (inQ K) (pv 1) (C8.pe_gc (by rfl) g_QUANTIFIERS) (by with_unfolding_all rfl))))) (pss_one (ps_ret (pe_lst (pa_cons (pe_ix (ixT K) (pv 0) pe_int (fun _ _ => rfl)) pa_nil)))) pss_nil) (pss_cons (ps_if (pt_cmpR (op_eq) (pv 1) pe_str (nomark _)) (pss_one (ps_ret (pe_lst (pa_cons (pe_ix (ixT K) (pv 0) pe_int (fun _ _ => rfl)) pa_nil)))) pss_nil) (pss_cons (ps_if (pt_cmpR (op_eq) (pv 1) pe_str (nomark _)) (pss_one (ps_ret (pe_callTy (listOf K) (by rfl) z_list (by decide +kernel) (pa_cons (pe_ix (ixT K) (pv 0) pe_int (fun _ _ => rfl)) pa_nil)))) pss_nil) (pss_one (ps_ret (pe_lst pa_nil)))))))), ?_⟩
    walk_at "rd"
    obtain ⟨xs, hx⟩ := fm_hd hf
    refine ⟨_, SqT.of hx, _, atI_nat (j := 0) rfl, ?_⟩
    obtain ⟨hd, hhd⟩ : ∃ hd, hd = hdF f1 := ⟨_, rfl⟩
    rw [← hhd]
    have no : ∀ s r : List Nat, ¬ s = r → ¬ V.str (S s) = V.str (S r) := fun s r h e => h (S_inj (V.str.inj e))
    refine ⟨_, _, rfl, kC, ?_⟩
    cases f1 with
    | cmp k ps c =>
      obtain ⟨u, h1, qq, as, h2, h3, h4⟩ := hf
      rw [if_pos (by rw [hhd]; exact kCmp_cm k)]
      have hpl := h4.len
      have hps : ps.length ≤ 30 := hgd.2.2.2.2.2
      refine ⟨_, SqT.of h1, _, atI_nat (j := 1) rfl, u, rfl, _, SqT.of h2, _, atI_nat (j := 0) rfl, qq, rfl, ⟨_, SqT.of h3⟩, fun G hG => ?_⟩
      refine lc_tupN (xs := as.map V.ref) (fun i H6 => H6 G = some (.lst (((keys ps).take i).map V.str)) ∧ Same H H6) ?_ ?_ ?_ ?_
      · exact ⟨upd_same, same_upd hG⟩
      · rintro i H6 _ ⟨_, s6⟩
        exact SqT.of (s6 _ _ h3)
      · rintro i x H6 N hx ⟨h6, s6⟩ hN
        obtain ⟨a, p, ha, rfl, hpi, hpa⟩ := (h4.same s6).at hx
        walk_at "rd"
        refine ⟨_, SqT.of hpa, _, atI_nat (j := 0) rfl, _, h6, smallt (by rw [List.length_map, List.length_take]; simp only [keys, List.length_map]; omega), hN _ ⟨?_, Dw.Same.new s6 hG⟩⟩
        have hk : (keys ps)[i]? = some p.1 := by
          unfold keys
          rw [List.getElem?_map, hpi]
          rfl
        rw [upd_same, List.take_add_one, hk, List.map_append]
        rfl
      · rintro H6 ⟨h6, s6⟩
        have hkl : (keys ps).length = ps.length := by simp [keys]
        rw [List.length_map, hpl, ← hkl, List.take_length] at h6
        exact ok G H6 s6 hG h6
    | pow z =>
      rw [if_neg (by rw [hhd]; exact oth_cm.1)]
      refine ⟨rfl, ?_⟩
      rw [if_pos (by rw [hhd]; rfl)]
      exact ⟨_, SqT.of hf, _, atI_nat (j := 1) rfl, by decide, fun l hl => ok l _ (same_upd hl) hl upd_same⟩
    | qf k z a =>
      obtain ⟨u, h1, h2⟩ := hf
      rw [if_neg (by rw [hhd]; exact (kQf_cm k).1)]
      refine ⟨rfl, ?_⟩
      rw [if_neg (no _ _ (by rw [hhd]; exact (kQf_cm k).2))]
      refine ⟨_, .inr (kQ _), rfl, flat_S _, ?_⟩
      rw [inV_S, if_pos (decide_eq_true (by rw [hhd]; exact (kQf_in k).2.2))]
      exact ⟨_, SqT.of h1, _, atI_nat (j := 1) rfl, by decide, fun l hl => ok l _ (same_upd hl) hl upd_same⟩
    | word w0 z o =>
      rw [if_neg (by rw [hhd]; exact oth_cm.2.1.1)]
      refine ⟨rfl, ?_⟩
      rw [if_neg (no _ _ (by rw [hhd]; exact oth_cm.2.1.2.1))]
      refine ⟨_, .inr (kQ _), rfl, flat_S _, ?_⟩
      rw [inV_S, if_neg (by rw [hhd]; exact fun e => oth_cm.2.1.2.2 (of_decide_eq_true e))]
      refine ⟨rfl, ?_⟩
      rw [if_pos (by rw [hhd]; rfl)]
      exact ⟨_, SqT.of hf, _, atI_nat (j := 2) rfl, by decide, fun l hl => ok l _ (same_upd hl) hl upd_same⟩
    | call g zs =>
      obtain ⟨u, h1, h2⟩ := hf
      rw [if_neg (by rw [hhd]; exact oth_cm.2.2.1)]
      refine ⟨rfl, ?_⟩
      rw [if_neg (no _ _ (by rw [hhd]; exact oth_cm.2.2.2.1))]
      refine ⟨_, .inr (kQ _), rfl, flat_S _, ?_⟩
      rw [inV_S, if_neg (by rw [hhd]; exact fun e => oth_cm.2.2.2.2.1 (of_decide_eq_true e))]
      refine ⟨rfl, ?_⟩
      rw [if_neg (no _ _ (by rw [hhd]; exact oth_cm.2.2.2.2.2))]
      refine ⟨rfl, ?_⟩
      rw [if_pos (by rw [hhd]; rfl)]
      refine ⟨_, SqT.of h1, _, atI_nat (j := 2) rfl, u, rfl, _, .inr (SqT.of h2), fun l hl => ok l _ (same_upd hl) hl ?_⟩
      rw [upd_same]
      show some (HO.lst (zs.map vS)) = some (HO.lst ((zs.map S).map V.str))
      rw [List.map_map]
      rfl
    | not a =>
      rw [if_neg (by rw [hhd]; exact not_cm.1)]
      refine ⟨rfl, ?_⟩
      rw [if_neg (no _ _ (by rw [hhd]; exact not_cm.2.1))]
      refine ⟨_, .inr (kQ _), rfl, flat_S _, ?_⟩
      rw [inV_S, if_neg (by rw [hhd]; exact fun e => not_cm.2.2.1 (of_decide_eq_true e))]
      refine ⟨rfl, ?_⟩
      rw [if_neg (no _ _ (by rw [hhd]; exact not_cm.2.2.2.1))]
      refine ⟨rfl, ?_⟩
      rw [if_neg (no _ _ (by rw [hhd]; exact not_cm.2.2.2.2))]
      exact ⟨Nat.zero_le _, fun l hl => ok l _ (same_upd hl) hl upd_same⟩
    | bin k a b2 =>
      rw [if_neg (by rw [hhd]; exact (kBin_cm k).1)]
      refine ⟨rfl, ?_⟩
      rw [if_neg (no _ _ (by rw [hhd]; exact (kBin_cm k).2.1))]
      refine ⟨_, .inr (kQ _), rfl, flat_S _, ?_⟩
      rw [inV_S, if_neg (by rw [hhd]; exact fun e => (kBin_cm k).2.2.1 (of_decide_eq_true e))]
      refine ⟨rfl, ?_⟩
      rw [if_neg (no _ _ (by rw [hhd]; exact (kBin_cm k).2.2.2.1))]
      refine ⟨rfl, ?_⟩
      rw [if_neg (no _ _ (by rw [hhd]; exact (kBin_cm k).2.2.2.2))]
      exact ⟨Nat.zero_le _, fun l hl => ok l _ (same_upd hl) hl upd_same⟩

end
end
section
local macro_rules | `(tactic| walk_at "rd") => `(tactic| simp only [tSeq, tNext, tAsg, gName, tRet, tRetN, tIfS, tDrop, tVar, tC, tOp, tUn, tTest, tCB, tCons, tNil, tB, tAnd, tOr, tNot, tAndV, tOrV, tNotV, tIf, tCall, tTup, tLst, tSl, tPart, tNoPart, tM0, tM1, tBM, tChain, tBreak, tCont, tNever, tAug, ipI, tPar, tyV_str,
  tFor_eq, tLc_eq, tMkO, tYes, wipe, ofStr_S, S_cat, one_S, len_S, S_iff, S_cps, Int.zero_add, gNil, gCons, gTup, gSub, iRng1, iRng2, iList, iTup, iStr, rI0, rI, rU, rEq, rNe, rIxL, rIxT, rIxS, Dw.rLen, rListOf, rTupOf, rNotB, rIsB, rMulS, rIn, rCat, rAppend, rCatA, rEqD, rNeD, C8.rSlX, tDGet, Int.toNat_natCast, WE, iEnum, iRev, rSum, tFd, tFs, tMake, tMakeS, tMeth, Dw.tMethS, tCallS, rSlL, rSlA, tDGet2, tDIn, tDNotIn, rSetD, rAll, rKIn, tBM0, rPop, rExtend, tAddT, rAddT, rSetT0, Dw.rSetL, rSortT, StX.tStar, tDNewK, tDisp, tPairs, L2.start, cxOf_K, cxOf_w, cxOf_prog,
  List.map_cons, List.map_nil, List.length_cons, List.length_nil, List.replicate, List.cons_append, List.nil_append, Nat.reduceAdd, Nat.reduceSub, Nat.zero_add, List.append_nil,
  List.set_cons_zero, List.set_cons_succ, List.getElem?_cons_zero, List.getElem?_cons_succ, Option.some.injEq, V.int.injEq, V.bl.injEq, V.ref.injEq, V.str.injEq, V.ty.injEq, List.cons.injEq, and_true, true_and, reduceCtorEq, false_and, exists_false, or_false, false_or, exists_eq_left, exists_eq_left', exists_eq', sw_S, an_S, exists_and_left, exists_const, exists_eq, decide_eq_true_eq, Bool.false_eq_true, if_true, if_false, Bool.not_eq_true', decide_eq_false_iff_not, Bool.not_true, Bool.not_false, ite_not, scal, and_false])
section
variable {P : Program} {w : World} {K : PySem.W.Frag} {mg : Str → Option Value} {base : Heap}
theorem preF_subs (f : Fm) : preF f = f :: (subs f).flatMap preF := by cases f <;> simp [preF, subs]
theorem preS_rev (fs : List Fm) : preS fs.reverse = fs.flatMap preF := by unfold preS; rw [List.reverse_reverse]
theorem FmsAt.tups {H H' : Hp} (e : Tups H H') : ∀ {as : List Addr} {fs : List Fm}, FmsAt H as fs → FmsAt H' as fs
  | [], [], _ => trivial
  | _ :: _, _ :: _, ⟨h1, h2⟩ => ⟨h1.tups e, FmsAt.tups e h2⟩
  | [], _ :: _, h => h.elim
  | _ :: _, [], h => h.elim
theorem FmsAt.len {H : Hp} : ∀ {as : List Addr} {fs : List Fm}, FmsAt H as fs → as.length = fs.length
  | [], [], _ => rfl
  | _ :: as, _ :: fs, ⟨_, h2⟩ => congrArg (· + 1) (FmsAt.len (as := as) (fs := fs) h2)
  | [], _ :: _, h => h.elim
  | _ :: _, [], h => h.elim
theorem FmsAt.at_ {H : Hp} : ∀ {as : List Addr} {fs : List Fm} {i : Nat} {a : Addr}, FmsAt H as fs → as[i]? = some a → ∃ f, fs[i]? = some f ∧ FmAt H a f
  | a :: as, f :: fs, 0, _, ⟨h1, _⟩, e => by cases e; exact ⟨f, rfl, h1⟩
  | a :: as, f :: fs, i + 1, _, ⟨_, h2⟩, e => FmsAt.at_ (as := as) (fs := fs) (i := i) h2 e
  | [], [], _, _, _, e => by cases e
  | [], _ :: _, _, _, h, _ => h.elim
  | _ :: _, [], _, _, h, _ => h.elim
theorem subs_few (f : Fm) : (subs f).length ≤ 2 := by cases f <;> simp [subs]
def sp_nodesF : Sp := fun vs H Q _ => ∃ (t : Addr) (f : Fm), vs = [.ref t] ∧ FmAt H t f ∧ (preF f).length ≤ 1000 ∧ ∀ (l : Addr) (es : List Addr) H', Same H H' → H l = none → H' l = some (.lst (es.map V.ref)) → NdsAt H' es (preF f) → Q (.ref l) H'
theorem c_nodes {f : Addr} {fd : FuncData} (D : C8.Def K mg "nodes" s_nodes f fd) (b : Binds K fd ["formula"] []) (c_parts : C8.Cal P w K mg base 1 "parts" sp_parts []) (z_reversed : mg "reversed" = none) : C8.Cal P w K mg base 2 "nodes" sp_nodesF [] := by
  refine C8.cal0 D b .nil sc_nodes (fun vs H Q E h => ?_) (fun cdv A outer s H vs Q E hr h => ?_)
  · obtain ⟨_, _, rfl, _⟩ := h
    rfl
  · obtain ⟨t, f1, rfl, hf, hsz, ok⟩ := h
    refine ⟨_, (pss_cons (ps_set (i := 1) sc_nodes.nd rfl (by first | exact Or.inl rfl | exact Or.inr rfl) (pe_lst pa_nil)) (pss_cons (ps_set (i := 2) sc_nodes.nd rfl (by first | exact Or.inl rfl | exact Or.inr rfl) (pe_lst (pa_cons (pe_tup (pa_cons (pv 0) (pa_cons pe_int pa_nil))) pa_nil))) (pss_cons (ps_while PassesOwn.never (pt_truth (pv 2) (by intro _; rfl)) (pss_cons (ps_asg (pe_bm0 PySem.F.plainAttrs_list PySem.F.slot_list_pop PySem.F.type_list_pop mt_pop (pv 2)) (pg_tup (n := 2) rfl (pgs_cons (pg_name (i := 3) sc_nodes.nd rfl (by first | exact Or.inl rfl | exact Or.inr rfl)) (pgs_cons (pg_name (i := 4) sc_nodes.nd rfl (by first | exact Or.inl rfl | exact Or.inr rfl)) pgs_nil)))) (C8.pss_cut (ps_expr (pe_bm PySem.F.plainAttrs_list PySem.F.slot_list_append PySem.F.type_list_append mt_append (pv 1) (pa_cons (pe_tup (pa_cons (pv 3) (pa_cons (pv 4) pa_nil))) pa_nil))) (pss_one (ps_expr (pe_bm PySem.F.plainAttrs_list PySem.F.slot_list_extend PySem.F.type_list_extend mt_extend (pv 2) (pa_cons (pe_lc (own := [("part", 5)]) (g := (gName 5)) (tt := tYes) rfl sc_nodes.nd (piRev K (by rfl) z_reversed (pa_cons (C8.pe_c c_parts hr (by decide) (by rfl) (pa_cons (pv 3) pa_nil)) pa_nil)) (blkOk_by (N := N_nodes) (sc := C8.fnScope s_nodes) (by decide +kernel)) (fun _ _ _ _ _ => (pg_name (i := 5) sc_nodes.nd rfl (by first | exact Or.inl rfl | exact Or.inr rfl))) (fun _ _ _ _ _ => pts_nil) (fun _ _ _ _ _ => (pe_tup (pa_cons (pv 5) (pa_cons (pe_op op_add (pv 4) pe_int) pa_nil))))) pa_nil))))))) (pss_one (ps_ret (pv 1)))))), ?_⟩
    walk_at "rd"
    refine ⟨Nat.zero_le _, fun Fd hFd => ⟨by decide, fun T0 hT0 => ⟨by decide, fun Wt hWt => ?_⟩⟩⟩
    have s1 := same_upd (o := .lst []) hFd
    have sT := same_upd (o := .tup [V.ref t, V.int 1]) hT0
    have s2 := s1.trans sT
    have sW := same_upd (o := .lst [V.ref T0]) hWt
    have hW0 : H Wt = none := s2.free hWt
    have hFW : Fd ≠ Wt := ne_of_none (sT _ _ upd_same) hWt
    obtain ⟨W, hW⟩ : ∃ W : Nat → L2.St → Hp → Prop, W = fun m σ H2 => ∃ (das : List Addr) (ds : List Fm) (was : List Addr) (xs : List Fm) (u3 u4 : Option V), σ = [some (V.ref t), some (V.ref Fd), some (V.ref Wt), u3, u4, none] ∧ H2 Fd = some (.lst (das.map V.ref)) ∧ H2 Wt = some (.lst (was.map V.ref)) ∧ NdsAt H2 das ds ∧ NdsAt H2 was xs ∧ m = (preS xs).length ∧ Same H H2 ∧ ds ++ preS xs = preF f1 := ⟨_, rfl⟩
    refine while_W W ?_ ?_
    · rw [hW]
      refine ⟨_, [], [], [T0], [f1], none, none, rfl, sW _ _ (sT _ _ upd_same), upd_same, trivial, ⟨⟨t, 1, sW _ _ upd_same, hf.tups (Tups.same (s2.trans sW))⟩, trivial⟩, rfl, s2.trans sW, by simp [preS]⟩
    intro m σ H2 hw
    rw [hW] at hw
    obtain ⟨das, ds, was, xs, u3, u4, rfl, h2F, h2W, hlv, hst, rfl, s2H, hct⟩ := hw
    walk_at "rd"
    refine ⟨!(was.map V.ref).isEmpty, .inl ⟨_, SqL.of h2W, rfl⟩, ?_⟩
    have hsl := hst.len
    have hfl := preS_len xs
    have hdl := hlv.len
    have hcl := congrArg List.length hct
    rw [List.length_append] at hcl
    rcases List.eq_nil_or_concat was with e | ⟨was', a, e⟩
    · rw [e] at hst
      cases xs with
      | cons z r => exact hst.elim
      | nil =>
        rw [e]
        refine ok Fd das H2 s2H hFd h2F ?_
        rw [← hct]
        simpa [preS] using hlv
    · rw [List.concat_eq_append] at e
      rw [e] at hst h2W ⊢
      obtain ⟨xs', f2, rfl, hst', t2, l, hav, hfx⟩ := hst.split
      rw [if_pos (by simp)]
      refine nxw_of fun N hN => ?_
      walk_at "rd"
      have hW2 : H2 Wt = some (.lst (was'.map V.ref ++ [V.ref a])) := by
        rw [h2W, List.map_append]
        rfl
      refine ⟨tyL hW2, _, hW2, .ref a, by simp, a, rfl, ?_⟩
      rw [List.dropLast_concat]
      have t3 : Tups H2 (upd H2 Wt (.lst (was'.map V.ref))) := tups_lst hW2
      have s3 : Same H (upd H2 Wt (.lst (was'.map V.ref))) := Dw.Same.new s2H hW0
      have h3F : (upd H2 Wt (.lst (was'.map V.ref))) Fd = some (.lst (das.map V.ref)) := by
        rw [upd_ne hFW]
        exact h2F
      refine ⟨_, SqT.of (t3 _ _ hav), rfl, _, _, rfl, _, _, rfl, rfl, ?_⟩
      have h3W : (upd H2 Wt (.lst (was'.map V.ref))) Wt = some (.lst (was'.map V.ref)) := upd_same
      have hst3 := hst'.tups t3
      have hlv3 := hlv.tups t3
      have hfx3 := hfx.tups t3
      obtain ⟨H3, hH3⟩ : ∃ H3, H3 = upd H2 Wt (.lst (was'.map V.ref)) := ⟨_, rfl⟩
      rw [← hH3] at s3 h3W hst3 hlv3 h3F hfx3 ⊢
      rw [preS_snoc, preF_subs] at hct hcl
      rw [List.length_append, List.length_cons] at hcl
      have hfl2 := preS_len xs'
      refine cut_by (fun σ' H' => [some (V.ref t), some (V.ref Fd), some (V.ref Wt), some (V.ref t2), some (.int l), none] = σ' ∧ Same H H' ∧ Tups H3 H' ∧ H' Wt = some (.lst (was'.map V.ref)) ∧ ∃ T1, H' Fd = some (.lst ((das ++ [T1]).map V.ref)) ∧ NdsAt H' (das ++ [T1]) (ds ++ [f2])) (fun N2 hN2 => ?_) ?_
      · walk_at "rd"
        refine ⟨tyL h3F, by decide, fun T1 hT1 => ?_⟩
        have sT1 := same_upd (o := .tup [V.ref t2, V.int l]) hT1
        have h4F := sT1 _ _ h3F
        refine ⟨_, h4F, smallt (by rw [List.length_map]; omega), ?_⟩
        have t45 := tups_lst (o := .lst (das.map V.ref ++ [V.ref T1])) h4F
        have t35 := (Tups.same sT1).trans t45
        refine hN2 _ _ ⟨rfl, Dw.Same.new (s3.trans sT1) hFd, t35, by rw [upd_ne hFW.symm]; exact sT1 _ _ h3W, T1, by rw [upd_same, List.map_append]; rfl, (hlv3.tups t35).append ⟨⟨t2, l, t45 _ _ upd_same, hfx3.tups t35⟩, trivial⟩⟩
      rintro σ' H4 ⟨rfl, s4, t34, h4W, T1, h4F, hlv4⟩
      walk_at "rd"
      refine ⟨tyL h4W, t2, f2, rfl, hfx3.tups t34, fun Pl as H5 s5 hPl ePl hvs => ⟨Pl, rfl, as.map V.ref, SqL.of ePl, fun Dl hDl => ?_⟩⟩
      have hvl := hvs.len
      have hsf := subs_few f2
      refine lc_itN (walk_rev (xs := as.map V.ref)) (fun i H7 => ∃ qs : List Addr, H7 Dl = some (.lst (qs.map V.ref)) ∧ NdsAt H7 qs ((subs f2).reverse.take i) ∧ Same H5 H7) ?_ ?_ ?_ ?_
      · exact ⟨[], upd_same, trivial, same_upd hDl⟩
      · rintro i H7 _ ⟨_, _, _, s7⟩
        exact SqL.of (s7 _ _ ePl)
      · rintro i y H7 H8 M hi ⟨qs, h7, p7, s7⟩ ⟨rfl, hy⟩ hM
        rw [List.length_map] at hi hy
        rw [List.getElem?_map] at hy
        obtain ⟨a2, ha2, rfl⟩ := Option.map_eq_some_iff.mp hy
        obtain ⟨f3, hf3, hfa⟩ := hvs.at_ ha2
        have hrev : (subs f2).reverse[i]? = some f3 := by rw [List.getElem?_reverse (by omega), ← hvl]; exact hf3
        have hql := p7.len
        rw [List.length_take, List.length_reverse] at hql
        walk_at "rd"
        refine ⟨by decide, fun T2 hT2 => ⟨_, (same_upd hT2) _ _ h7, smallt (by rw [List.length_map]; omega), hM _ ⟨qs ++ [T2], ?_, ?_, Dw.Same.new (s7.trans (same_upd hT2)) hDl⟩⟩⟩
        · rw [upd_same, List.map_append]
          rfl
        · rw [List.take_add_one, hrev]
          have tt := tups_lst (o := .lst (qs.map V.ref ++ [V.ref T2])) ((same_upd (o := .tup [V.ref a2, V.int (l + 1)]) hT2) _ _ h7)
          have tq := (Tups.same (same_upd (o := .tup [V.ref a2, V.int (l + 1)]) hT2)).trans tt
          exact (p7.tups tq).append ⟨⟨a2, l + 1, tt _ _ upd_same, hfa.tups ((Tups.same s7).trans tq)⟩, trivial⟩
      · rintro H7 ⟨qs, h7, p7, s7⟩
        rw [List.take_of_length_le (by rw [List.length_reverse, List.length_map]; omega)] at p7
        have h7W := s7 _ _ (s5 _ _ h4W)
        have h7F := s7 _ _ (s5 _ _ h4F)
        have hql := p7.len
        rw [List.length_reverse] at hql
        have hes := hst'.len
        refine ⟨_, h7W, _, h7, by rw [List.length_map, List.length_map]; exact small (by omega), ?_⟩
        have t8 := tups_lst (o := .lst (was'.map V.ref ++ qs.map V.ref)) h7W
        have t47 := (Tups.same s5).trans (Tups.same s7)
        have e3 : preS (xs' ++ (subs f2).reverse) = (subs f2).flatMap preF ++ preS xs' := by rw [preS_app, preS_rev]
        have e4 : (preS (xs' ++ (subs f2).reverse)).length + 1 = (preS (xs' ++ [f2])).length := by
          rw [e3, preS_snoc, preF_subs f2, List.length_append, List.length_append, List.length_cons]
          omega
        refine hN (preS (xs' ++ (subs f2).reverse)).length _ _ (by omega) ?_
        rw [hW]
        refine ⟨das ++ [T1], ds ++ [f2], was' ++ qs, xs' ++ (subs f2).reverse, some (V.ref t2), some (.int l), rfl, by rw [upd_ne hFW]; exact h7F, by rw [upd_same, List.map_append], hlv4.tups (t47.trans t8), (hst3.tups ((t34.trans t47).trans t8)).append (p7.tups t8), rfl, Dw.Same.new ((s4.trans s5).trans s7) hW0, ?_⟩
        rw [e3, ← hct]
        simp

end
end
section
local macro_rules | `(tactic| walk_at "rd") => `(tactic| simp only [tSeq, tNext, tAsg, gName, tRet, tRetN, tIfS, tDrop, tVar, tC, tOp, tUn, tTest, tCB, tCons, tNil, tB, tAnd, tOr, tNot, tAndV, tOrV, tNotV, tIf, tCall, tTup, tLst, tSl, tPart, tNoPart, tM0, tM1, tBM, tChain, tBreak, tCont, tNever, tAug, ipI, tPar, tyV_str,
  tFor_eq, tLc_eq, tMkO, tYes, wipe, ofStr_S, S_cat, one_S, len_S, S_iff, S_cps, Int.zero_add, gNil, gCons, gTup, gSub, iRng1, iRng2, iList, iTup, iStr, rI0, rI, rU, rEq, rNe, rIxL, rIxT, rIxS, Dw.rLen, rListOf, rTupOf, rNotB, rIsB, rMulS, rIn, rCat, rAppend, rCatA, rEqD, rNeD, C8.rSlX, tDGet, Int.toNat_natCast, WE, iEnum, iRev, rSum, tFd, tFs, tMake, tMakeS, tMeth, Dw.tMethS, tCallS, rSlL, rSlA, tDGet2, tDIn, tDNotIn, rSetD, rAll, rKIn, tBM0, rPop, rExtend, tAddT, rAddT, rSetT0, Dw.rSetL, rSortT, StX.tStar, tDNewK, tDisp, tPairs, L2.start, cxOf_K, cxOf_w, cxOf_prog,
  List.map_cons, List.map_nil, List.length_cons, List.length_nil, List.replicate, List.cons_append, List.nil_append, Nat.reduceAdd, Nat.reduceSub, Nat.zero_add, List.append_nil,
  List.set_cons_zero, List.set_cons_succ, List.getElem?_cons_zero, List.getElem?_cons_succ, Option.some.injEq, V.int.injEq, V.bl.injEq, V.ref.injEq, V.str.injEq, V.ty.injEq, List.cons.injEq, and_true, true_and, reduceCtorEq, false_and, exists_false, or_false, false_or, exists_eq_left, exists_eq_left', exists_eq', sw_S, an_S, exists_and_left, exists_const, exists_eq, decide_eq_true_eq, Bool.false_eq_true, if_true, if_false, Bool.not_eq_true', decide_eq_false_iff_not, Bool.not_true, Bool.not_false, ite_not, scal, and_false])
section
variable {P : Program} {w : World} {K : PySem.W.Frag} {mg : Str → Option Value} {base : Heap}
def fsize : Fm → Nat
  | .not a => fsize a + 1
  | .bin _ a b => fsize a + fsize b + 1
  | .qf _ _ a => fsize a + 1
  | _ => 1
/-- the name that a quantifier binds -/
def qz : Fm → List Str
  | .qf _ z _ => [S z]
  | _ => []
/-- the free names, as a stack meets them, under these bound ones -/
def frN : Fm → List Str → List Str
  | .not a, bd => frN a bd
  | .bin _ a b, bd => frN b bd ++ frN a bd
  | .qf _ z a, bd => frN a (bd ++ [S z])
  | f, bd => (own f).filter fun n => decide (n ∉ bd)
theorem frN_eq (f : Fm) (bd : List Str) : frN f bd = ((own f).filter fun n => decide (n ∉ bd ++ qz f)) ++ (((subs f).map fun g => (g, bd ++ qz f)).reverse.flatMap fun x => frN x.1 x.2) := by
  cases f <;> simp [frN, subs, own, qz]
/-- pairs (formula, bound names) as they stand -/
def BdAt (H : Hp) : List Addr → List (Fm × List Str) → Prop
  | [], [] => True
  | a :: as, x :: xs => (∃ t q, H a = some (.tup [.ref t, .ref q]) ∧ FmAt H t x.1 ∧ H q = some (.tup (x.2.map V.str))) ∧ BdAt H as xs
  | _, _ => False
theorem BdAt.tups {H H' : Hp} (e : Tups H H') : ∀ {as : List Addr} {xs : List (Fm × List Str)}, BdAt H as xs → BdAt H' as xs
  | [], [], _ => trivial
  | _ :: as, _ :: xs, ⟨⟨t, q, h1, h2, h4⟩, h3⟩ => ⟨⟨t, q, e _ _ h1, h2.tups e, e _ _ h4⟩, BdAt.tups e (as := as) (xs := xs) h3⟩
  | [], _ :: _, h => h.elim
  | _ :: _, [], h => h.elim
theorem BdAt.append {H : Hp} : ∀ {as bs : List Addr} {xs ys : List (Fm × List Str)}, BdAt H as xs → BdAt H bs ys → BdAt H (as ++ bs) (xs ++ ys)
  | [], _, [], _, _, h => h
  | _ :: _, _, _ :: _, _, ⟨h1, h2⟩, h => ⟨h1, BdAt.append h2 h⟩
  | [], _, _ :: _, _, h, _ => h.elim
  | _ :: _, _, [], _, h, _ => h.elim
theorem BdAt.len {H : Hp} : ∀ {as : List Addr} {xs : List (Fm × List Str)}, BdAt H as xs → as.length = xs.length
  | [], [], _ => rfl
  | _ :: as, _ :: xs, h => congrArg (· + 1) (BdAt.len (as := as) (xs := xs) h.2)
  | [], _ :: _, h => h.elim
  | _ :: _, [], h => h.elim
theorem BdAt.split {H : Hp} : ∀ {as : List Addr} {a : Addr} {xs : List (Fm × List Str)}, BdAt H (as ++ [a]) xs → ∃ ys x, xs = ys ++ [x] ∧ BdAt H as ys ∧ ∃ t q, H a = some (.tup [.ref t, .ref q]) ∧ FmAt H t x.1 ∧ H q = some (.tup (x.2.map V.str))
  | [], a, [x], h => ⟨[], x, rfl, trivial, h.1⟩
  | [], a, x :: y :: r, h => h.2.elim
  | [], a, [], h => h.elim
  | b :: as, a, x :: xs, ⟨h1, h2⟩ => by
    obtain ⟨ys, y, e, h3, h4⟩ := BdAt.split (as := as) h2
    exact ⟨x :: ys, y, by rw [e]; rfl, ⟨h1, h3⟩, h4⟩
  | _ :: _, _, [], h => h.elim
def frL (st : List (Fm × List Str)) : List Str := st.reverse.flatMap fun x => frN x.1 x.2
theorem frL_pop (st : List (Fm × List Str)) (g : Fm) (bd : List Str) : frL (st ++ [(g, bd)]) = ((own g).filter fun n => decide (n ∉ bd ++ qz g)) ++ frL (st ++ (subs g).map fun h => (h, bd ++ qz g)) := by
  unfold frL
  rw [List.reverse_append, List.reverse_append, List.flatMap_append, List.flatMap_append]
  show frN g bd ++ [] ++ _ = _
  rw [List.append_nil, frN_eq, List.append_assoc]
def szL (st : List (Fm × List Str)) : Nat := (st.map fun x => fsize x.1).sum
theorem fsize_eq (f : Fm) : fsize f = ((subs f).map fsize).sum + 1 := by
  cases f <;> simp [fsize, subs]
theorem szL_pop (st : List (Fm × List Str)) (g : Fm) (bd b2 : List Str) : szL (st ++ [(g, bd)]) = szL (st ++ (subs g).map fun h => (h, b2)) + 1 := by
  unfold szL
  rw [List.map_append, List.map_append, List.sum_append, List.sum_append, List.map_map]
  show _ + (fsize g + 0) = _ + ((subs g).map fsize).sum + 1
  have := fsize_eq g
  omega
theorem szL_len (st : List (Fm × List Str)) : st.length ≤ szL st := by
  unfold szL
  induction st with
  | nil => exact Nat.le_refl _
  | cons x st ih =>
    rw [List.map_cons, List.sum_cons, List.length_cons]
    have := fsize_eq x.1
    omega
theorem subs_good {f g : Fm} (h : f.Good) (hm : g ∈ subs f) : g.Good := by
  cases f with
  | not a => rw [List.mem_singleton.mp hm]; exact h
  | qf k z a => rw [List.mem_singleton.mp hm]; exact h.2
  | bin k a b =>
    simp only [subs, List.mem_cons, List.not_mem_nil, or_false] at hm
    rcases hm with rfl | rfl
    · exact h.1
    · exact h.2
  | _ => cases hm
theorem fsize_sub {f g : Fm} (hm : g ∈ subs f) : fsize g + 1 ≤ fsize f := by
  cases f with
  | not a => rw [List.mem_singleton.mp hm]; exact Nat.le_refl _
  | qf k z a => rw [List.mem_singleton.mp hm]; exact Nat.le_refl _
  | bin k a b =>
    simp only [subs, List.mem_cons, List.not_mem_nil, or_false] at hm
    rcases hm with rfl | rfl <;> (simp only [fsize]; omega)
  | _ => cases hm
def sp_free : Sp := fun vs H Q _ => ∃ (t : Addr) (f : Fm), vs = [.ref t] ∧ FmAt H t f ∧ f.Good ∧ fsize f ≤ 100 ∧ (frN f []).length ≤ 3000 ∧ (setL (frN f [])).length < 64 ∧ ∀ (l : Addr) (ys : List Str) H', ys.Perm (setL (frN f [])) → sortedS ys = true → Same H H' → H l = none → H' l = some (.lst (ys.map V.str)) → Q (.ref l) H'
theorem c_free_names {f : Addr} {fd : FuncData} (D : C8.Def K mg "free_names" s_free_names f fd) (b : Binds K fd ["formula"] []) {aQ : Addr} (g_QUANTIFIERS : ∃ u, mg "QUANTIFIERS" = some u ∧ RelV (.ref aQ) u) (kQ : ∀ H, SqT K H aQ ([cs "some", cs "all"].map vS)) (c_own_names : C8.Cal P w K mg base 1 "own_names" sp_own []) (c_parts : C8.Cal P w K mg base 1 "parts" sp_parts []) (z_set : mg "set" = none) (z_sorted : mg "sorted" = none) : C8.Cal P w K mg base 2 "free_names" sp_free [] := by
  refine C8.cal0 D b .nil sc_free_names (fun vs H Q E h => ?_) (fun cdv A outer s H vs Q E hr h => ?_)
  · obtain ⟨_, _, rfl, _⟩ := h
    rfl
  · obtain ⟨t, f1, rfl, hf, hgd, hsz, h3k, h64, ok⟩ := h
    refine ⟨_, (pss_cons (ps_set (i := 1) sc_free_names.nd rfl (by first | exact Or.inl rfl | exact Or.inr rfl) (pe_callTy0 setT0 (by rfl) z_set (by decide +kernel))) (pss_cons (ps_set (i := 2) sc_free_names.nd rfl (by first | exact Or.inl rfl | exact Or.inr rfl) (pe_lst (pa_cons (pe_tup (pa_cons (pv 0) (pa_cons (pe_tup pa_nil) pa_nil))) pa_nil))) (pss_cons (ps_while PassesOwn.never (pt_truth (pv 2) (by intro _; rfl)) (pss_cons (ps_asg (pe_bm0 PySem.F.plainAttrs_list PySem.F.slot_list_pop PySem.F.type_list_pop mt_pop (pv 2)) (pg_tup (n := 2) rfl (pgs_cons (pg_name (i := 3) sc_free_names.nd rfl (by first | exact Or.inl rfl | exact Or.inr rfl)) (pgs_cons (pg_name (i := 4) sc_free_names.nd rfl (by first | exact Or.inl rfl | exact Or.inr rfl)) pgs_nil)))) (C8.pss_cut (ps_if (pt_cmpR (inQ K) (pe_ix (ixT K) (pv 3) pe_int (fun _ _ => rfl)) (C8.pe_gc (by rfl) g_QUANTIFIERS) (by with_unfolding_all rfl)) (pss_one (ps_set (i := 4) sc_free_names.nd rfl (by first | exact Or.inl rfl | exact Or.inr rfl) (pe_tup (StX.pa_star (pv 4) (pa_cons (pe_ix (ixT K) (pv 3) pe_int (fun _ _ => rfl)) pa_nil))))) pss_nil) (C8.pss_cut (ps_for PassesOwn.never rfl (piL K (C8.pe_c c_own_names hr (by decide) (by rfl) (pa_cons (pv 3) pa_nil))) (pg_name (i := 5) sc_free_names.nd rfl (by first | exact Or.inl rfl | exact Or.inr rfl)) (pss_one (ps_if (pt_cmpR (notInQ K) (pv 5) (pv 4) (by with_unfolding_all rfl)) (pss_one (ps_expr (pe_addT (pv 1) (pa_cons (pv 5) pa_nil)))) pss_nil))) (pss_one (ps_expr (pe_bm PySem.F.plainAttrs_list PySem.F.slot_list_extend PySem.F.type_list_extend mt_extend (pv 2) (pa_cons (pe_lc (own := [("part", 6)]) (g := (gName 6)) (tt := tYes) rfl sc_free_names.nd (piL K (C8.pe_c c_parts hr (by decide) (by rfl) (pa_cons (pv 3) pa_nil))) (blkOk_by (N := N_free_names) (sc := C8.fnScope s_free_names) (by decide +kernel)) (fun _ _ _ _ _ => (pg_name (i := 6) sc_free_names.nd rfl (by first | exact Or.inl rfl | exact Or.inr rfl))) (fun _ _ _ _ _ => pts_nil) (fun _ _ _ _ _ => (pe_tup (pa_cons (pv 6) (pa_cons (pv 4) pa_nil))))) pa_nil)))))))) (pss_one (ps_ret (pe_callB (sortT rfl) (by rfl) z_sorted (by decide +kernel) (pa_cons (pv 1) pa_nil))))))), ?_⟩
    walk_at "rd"
    refine fun Fd hFd => ⟨Nat.zero_le _, fun E0 hE0 => ⟨by decide, fun T0 hT0 => ⟨by decide, fun Wt hWt => ?_⟩⟩⟩
    have s1 := same_upd (o := SetTx P w Fd []) hFd
    have sE := same_upd (o := .tup []) hE0
    have sT := same_upd (o := .tup [V.ref t, V.ref E0]) hT0
    have s2 := (s1.trans sE).trans sT
    have sW := same_upd (o := .lst [V.ref T0]) hWt
    have hFW : Fd ≠ Wt := ne_of_none (sT _ _ (sE _ _ upd_same)) hWt
    obtain ⟨W, hW⟩ : ∃ W : Nat → L2.St → Hp → Prop, W = fun m σ H2 => ∃ (was : List Addr) (xs : List (Fm × List Str)) (ks : List Str) (u3 u4 u5 u6 : Option V), σ = [some (V.ref t), some (V.ref Fd), some (V.ref Wt), u3, u4, u5, u6] ∧ H2 Fd = some (SetTx P w Fd (setL ks)) ∧ H2 Wt = some (.lst (was.map V.ref)) ∧ BdAt H2 was xs ∧ m = szL xs ∧ Same H H2 ∧ ks ++ frL xs = frN f1 [] ∧ (∀ x ∈ xs, x.1.Good ∧ x.2.length + fsize x.1 ≤ 100) ∧ m ≤ 100 := ⟨_, rfl⟩
    refine while_W W ?_ ?_
    · rw [hW]
      exact ⟨_, [T0], [(f1, [])], [], none, none, none, none, rfl, sW _ _ (sT _ _ (sE _ _ upd_same)), upd_same, ⟨⟨t, E0, sW _ _ upd_same, hf.tups (Tups.same (s2.trans sW)), sW _ _ (sT _ _ upd_same)⟩, trivial⟩, rfl, s2.trans sW, by simp [frL], fun x hx => by rw [List.mem_singleton.mp hx]; exact ⟨hgd, by simpa using hsz⟩, by simpa [szL] using hsz⟩
    intro m σ H2 hw
    rw [hW] at hw
    obtain ⟨was, xs, ks, u3, u4, u5, u6, rfl, h2F, h2W, hst, rfl, s2H, hct, hxg, hm⟩ := hw
    walk_at "rd"
    refine ⟨!(was.map V.ref).isEmpty, .inl ⟨_, SqL.of h2W, rfl⟩, ?_⟩
    have hsl := hst.len
    rcases List.eq_nil_or_concat was with e | ⟨was', a, e⟩
    · rw [e] at hst
      cases xs with
      | cons z r => exact hst.elim
      | nil =>
        rw [e]
        have e2 : ks = frN f1 [] := by rw [← hct]; simp [frL]
        rw [e2] at h2F
        refine ⟨_, h2F, h64, fun ys p hp1 hp2 hp3 => ok p ys _ hp1 hp2 (s2H.trans (same_upd hp3)) (s2H.free hp3) upd_same⟩
    rw [List.concat_eq_append] at e
    rw [e] at hst h2W ⊢
    obtain ⟨xs', ⟨f2, bd⟩, rfl, hst', t2, q2, hav, hfx, hq2⟩ := hst.split
    rw [if_pos (by simp)]
    refine nxw_of fun N hN => ?_
    walk_at "rd"
    have hW2 : H2 Wt = some (.lst (was'.map V.ref ++ [V.ref a])) := by
      rw [h2W, List.map_append]
      rfl
    refine ⟨tyL hW2, _, hW2, .ref a, by simp, a, rfl, ?_⟩
    rw [List.dropLast_concat]
    have hW0 : H Wt = none := s2.free hWt
    have t3 : Tups H2 (upd H2 Wt (.lst (was'.map V.ref))) := tups_lst hW2
    have s3 : Same H (upd H2 Wt (.lst (was'.map V.ref))) := Dw.Same.new s2H hW0
    have h3F : (upd H2 Wt (.lst (was'.map V.ref))) Fd = some (SetTx P w Fd (setL ks)) := by
      rw [upd_ne hFW]
      exact h2F
    refine ⟨_, SqT.of (t3 _ _ hav), rfl, _, _, rfl, _, _, rfl, rfl, ?_⟩
    have h3W : (upd H2 Wt (.lst (was'.map V.ref))) Wt = some (.lst (was'.map V.ref)) := upd_same
    have hst3 := hst'.tups t3
    have hfx3 := hfx.tups t3
    have hq3 := t3 _ _ hq2
    obtain ⟨H3, hH3⟩ : ∃ H3, H3 = upd H2 Wt (.lst (was'.map V.ref)) := ⟨_, rfl⟩
    rw [← hH3] at s3 h3W hst3 h3F hfx3 hq3 ⊢
    have hg2 := hxg (f2, bd) (by simp)
    obtain ⟨hd2, hx2⟩ := fm_hd hfx3
    have hszp := szL_pop xs' f2 bd (bd ++ qz f2)
    have hszl := szL_len (xs' ++ (subs f2).map fun h => (h, bd ++ qz f2))
    rw [frL_pop] at hct
    have hfs : 0 < fsize f2 := by rw [fsize_eq]; omega
    have hqz : (qz f2).length ≤ 1 := by cases f2 <;> simp [qz]
    have hgb : f2.Good ∧ bd.length + fsize f2 ≤ 100 := hg2
    refine cut_by (fun σ' H' => ∃ q3, [some (V.ref t), some (V.ref Fd), some (V.ref Wt), some (V.ref t2), some (V.ref q3), u5, u6] = σ' ∧ Same H3 H' ∧ H' q3 = some (.tup ((bd ++ qz f2).map V.str))) (fun N2 hN2 => ?_) ?_
    · walk_at "rd"
      refine ⟨_, SqT.of hx2, _, atI_nat (j := 0) rfl, _, .inr (kQ _), rfl, flat_S _, ?_⟩
      rw [inV_S]
      by_cases hq : hdF f2 ∈ [cs "some", cs "all"]
      · rw [if_pos (decide_eq_true hq)]
        cases f2 with
        | qf k z b =>
          obtain ⟨u, h1, h2⟩ := hfx3
          refine ⟨_, .inl (SqT.of hq3), _, SqT.of h1, _, atI_nat (j := 1) rfl, small (by rw [List.length_append, List.length_map]; show _ + 1 ≤ _; omega), fun p hp => hN2 _ _ ⟨p, rfl, same_upd hp, by rw [upd_same, List.map_append]; rfl⟩⟩
        | pow z => exact absurd hq (show cs "pow" ∉ [cs "some", cs "all"] by decide +kernel)
        | word w0 z o => exact absurd hq (show cs "word" ∉ [cs "some", cs "all"] by decide +kernel)
        | cmp k ps c => exact absurd hq (kCmp_in k).2.2
        | call g zs => exact absurd hq (show cs "call" ∉ [cs "some", cs "all"] by decide +kernel)
        | not b => exact absurd hq (show cs "not" ∉ [cs "some", cs "all"] by decide +kernel)
        | bin k b c => exact absurd hq (kBin_cm k).2.2.1
      · rw [if_neg (by simpa using hq)]
        refine hN2 _ _ ⟨q2, rfl, Same.refl _, ?_⟩
        have : qz f2 = [] := by
          cases f2 with
          | qf k z b => exact absurd (kQf_in k).2.2 hq
          | _ => rfl
        rw [this, List.append_nil]
        exact hq3
    rintro σ' H4 ⟨q3, rfl, s4, hq4⟩
    have h4F := s4 _ _ h3F
    have h4W := s4 _ _ h3W
    have hbl : (bd ++ qz f2).length ≤ 100 := by rw [List.length_append]; omega
    obtain ⟨bq, hbq⟩ : ∃ bq, bq = bd ++ qz f2 := ⟨_, rfl⟩
    rw [← hbq] at hq4 hct hbl hszp hszl
    have hkl : ks.length ≤ (frN f1 []).length := by rw [← hct, List.length_append]; omega
    refine cut_by (fun σ' H' => ∃ u5, [some (V.ref t), some (V.ref Fd), some (V.ref Wt), some (V.ref t2), some (V.ref q3), u5, u6] = σ' ∧ But Fd H4 H' ∧ H' Fd = some (SetTx P w Fd (setL (ks ++ (own f2).filter fun n => decide (n ∉ bq))))) (fun N2 hN2 => ?_) ?_
    · walk_at "rd"
      refine ⟨t2, f2, rfl, hfx3.tups (Tups.same s4), hgb.1, fun l H5 s5 hl hl5 => ⟨l, rfl, ⟨_, SqL.of hl5⟩, ?_⟩⟩
      refine for_listN (xs := (own f2).map V.str) (fun i σ H6 => ∃ u5, [some (V.ref t), some (V.ref Fd), some (V.ref Wt), some (V.ref t2), some (V.ref q3), u5, u6] = σ ∧ But Fd H5 H6 ∧ H6 Fd = some (SetTx P w Fd (setL (ks ++ ((own f2).take i).filter fun n => decide (n ∉ bq))))) ?_ ?_ ?_ ?_
      · exact ⟨_, rfl, But.refl _ _, by simpa using s5 _ _ h4F⟩
      · rintro i σ H6 _ ⟨_, _, b6, _⟩
        exact SqL.of (b6 _ _ (ne_of_none h4F hl).symm hl5)
      · rintro i x σ H6 N3 hx ⟨u5', rfl, b6, h6F⟩ hN3
        rw [List.getElem?_map] at hx
        obtain ⟨n, hn, rfl⟩ := Option.map_eq_some_iff.mp hx
        walk_at "rd"
        have nq3 : q3 ≠ Fd := ne_of hq4 h4F (by intro z; cases z)
        refine ⟨_, .inr (SqT.of (b6 _ _ nq3 (s5 _ _ hq4))), rfl, flat_str _, ?_⟩
        rw [inV_str]
        by_cases hb : n ∈ bq
        · rw [if_neg (by simpa using hb)]
          refine hN3 _ _ ⟨_, rfl, b6, ?_⟩
          rw [h6F, filter_take_add _ _ _ _ hn]
          simp [hb]
        · rw [if_pos (by simpa using hb)]
          have hln : (setL (ks ++ ((own f2).take i).filter fun n => decide (n ∉ bq))).length < 4000 := by
            refine Nat.lt_of_le_of_lt (setL_len _) ?_
            have e1 : (((own f2).take i).filter fun n => decide (n ∉ bq)).length ≤ ((own f2).filter fun n => decide (n ∉ bq)).length := ((List.take_sublist i (own f2)).filter _).length_le
            have e2 := congrArg List.length hct
            rw [List.length_append, List.length_append] at e2
            rw [List.length_append]
            omega
          refine ⟨⟨_, h6F⟩, _, h6F, hln, hN3 _ _ ⟨_, rfl, b6.trans But.upd, ?_⟩⟩
          rw [upd_same, filter_take_add _ _ _ _ hn, ← List.append_assoc]
          simp only [hb, not_false_eq_true, decide_true, if_true]
          rw [setL_snoc]
      · rintro σ H6 ⟨u5', rfl, b6, h6F⟩
        rw [List.length_map, List.take_length] at h6F
        exact hN2 _ _ ⟨_, rfl, (But.of s5).trans b6, h6F⟩
    rintro σ' H5 ⟨u5', rfl, b5, h5F⟩
    have nFW : Wt ≠ Fd := hFW.symm
    have t45 : Tups H4 H5 := Tups.but b5 h4F (fun xs z => by cases z)
    have t35 := (Tups.same s4).trans t45
    have h5W := b5 _ _ nFW h4W
    have hq5 := t45 _ _ hq4
    walk_at "rd"
    refine ⟨tyL h5W, t2, f2, rfl, hfx3.tups t35, fun Pl as H6 s6 hPl ePl hvs => ⟨Pl, rfl, ⟨_, SqL.of ePl⟩, fun Dl hDl => ?_⟩⟩
    have hvl := hvs.len
    have hsf := subs_few f2
    refine lc_listN (xs := as.map V.ref) (fun i H7 => ∃ qs : List Addr, H7 Dl = some (.lst (qs.map V.ref)) ∧ BdAt H7 qs (((subs f2).map fun h => (h, bq)).take i) ∧ Same H6 H7) ?_ ?_ ?_ ?_
    · exact ⟨[], upd_same, trivial, same_upd hDl⟩
    · rintro i H7 _ ⟨_, _, _, s7⟩
      exact SqL.of (s7 _ _ ePl)
    · rintro i y H7 M hi ⟨qs, h7, p7, s7⟩ hM
      rw [List.getElem?_map] at hi
      obtain ⟨a2, ha2, rfl⟩ := Option.map_eq_some_iff.mp hi
      obtain ⟨f3, hf3, hfa⟩ := hvs.at_ ha2
      have hql := p7.len
      rw [List.length_take, List.length_map] at hql
      walk_at "rd"
      have sT2 : ∀ T2, H7 T2 = none → Same H7 (upd H7 T2 (.tup [V.ref a2, V.ref q3])) := fun T2 hT2 => same_upd hT2
      refine ⟨by decide, fun T2 hT2 => ⟨_, (sT2 T2 hT2) _ _ h7, smallt (by rw [List.length_map]; omega), hM _ ⟨qs ++ [T2], ?_, ?_, Dw.Same.new (s7.trans (sT2 T2 hT2)) hDl⟩⟩⟩
      · rw [upd_same, List.map_append]
        rfl
      · rw [List.take_add_one, List.getElem?_map, hf3]
        have tt := tups_lst (o := .lst (qs.map V.ref ++ [V.ref T2])) ((sT2 T2 hT2) _ _ h7)
        have tq := (Tups.same (sT2 T2 hT2)).trans tt
        exact (p7.tups tq).append ⟨⟨a2, q3, tt _ _ upd_same, hfa.tups ((Tups.same s7).trans tq), tq _ _ (s7 _ _ (s6 _ _ hq5))⟩, trivial⟩
    · rintro H7 ⟨qs, h7, p7, s7⟩
      rw [List.take_of_length_le (by rw [List.length_map, List.length_map]; omega)] at p7
      have h7W := s7 _ _ (s6 _ _ h5W)
      have h7F := s7 _ _ (s6 _ _ h5F)
      have hql := p7.len
      rw [List.length_map] at hql
      have hes := hst'.len
      rw [szL_pop xs' f2 bd bq] at hm
      refine ⟨_, h7W, _, h7, by rw [List.length_map, List.length_map]; refine small ?_; rw [List.length_append, List.length_map] at hszl; omega, ?_⟩
      have t8 := tups_lst (o := .lst (was'.map V.ref ++ qs.map V.ref)) h7W
      have t57 := (Tups.same s6).trans (Tups.same s7)
      have s5H : Same H H5 := Dw.Same.but2 (s3.trans s4) b5 hFd
      refine hN (szL (xs' ++ (subs f2).map fun h => (h, bq))) _ _ (by omega) ?_
      rw [hW]
      refine ⟨was' ++ qs, xs' ++ (subs f2).map fun h => (h, bq), _, _, _, _, _, rfl, by rw [upd_ne hFW]; exact h7F, by rw [upd_same, List.map_append], ((hst3.tups ((t35.trans t57).trans t8))).append (p7.tups t8), rfl, Dw.Same.new ((s5H.trans s6).trans s7) hW0, by rw [List.append_assoc]; exact hct, ?_, by omega⟩
      intro x hx
      rcases List.mem_append.mp hx with hx | hx
      · exact hxg x (List.mem_append_left _ hx)
      · obtain ⟨f4, hf4, rfl⟩ := List.mem_map.mp hx
        refine ⟨subs_good hgb.1 hf4, ?_⟩
        have := fsize_sub hf4
        have hbq2 : bq.length ≤ bd.length + 1 := by rw [hbq, List.length_append]; omega
        have hg3 := hgb.2
        show bq.length + fsize f4 ≤ 100
        omega

end
end
section
local macro_rules | `(tactic| walk_at "rd") => `(tactic| simp only [tSeq, tNext, tAsg, gName, tRet, tRetN, tIfS, tDrop, tVar, tC, tOp, tUn, tTest, tCB, tCons, tNil, tB, tAnd, tOr, tNot, tAndV, tOrV, tNotV, tIf, tCall, tTup, tLst, tSl, tPart, tNoPart, tM0, tM1, tBM, tChain, tBreak, tCont, tNever, tAug, ipI, tPar, tyV_str,
  tFor_eq, tLc_eq, tMkO, tYes, wipe, Int.zero_add, gNil, gCons, gTup, gSub, iRng1, iRng2, iList, iTup, iStr, rI0, rI, rU, rEq, rNe, rIxL, rIxT, rIxS, Dw.rLen, rListOf, rTupOf, rNotB, rIsB, rMulS, rIn, rCat, rAppend, rCatA, rEqD, rNeD, C8.rSlX, tDGet, Int.toNat_natCast, WE, iEnum, iRev, rSum, tFd, tFs, tMake, tMakeS, tMeth, Dw.tMethS, tCallS, rSlL, rSlA, tDGet2, tDIn, tDNotIn, rSetD, rAll, rKIn, tBM0, rPop, rExtend, tAddT, rAddT, rSetT0, Dw.rSetL, rSortT, StX.tStar, tDNewK, tDisp, tPairs, L2.start, cxOf_K, cxOf_w, cxOf_prog,
  List.map_cons, List.map_nil, List.length_cons, List.length_nil, List.replicate, List.cons_append, List.nil_append, Nat.reduceAdd, Nat.reduceSub, Nat.zero_add, List.append_nil,
  List.set_cons_zero, List.set_cons_succ, List.getElem?_cons_zero, List.getElem?_cons_succ, Option.some.injEq, V.int.injEq, V.bl.injEq, V.ref.injEq, V.str.injEq, V.ty.injEq, List.cons.injEq, and_true, true_and, reduceCtorEq, false_and, exists_false, or_false, false_or, exists_eq_left, exists_eq_left', exists_eq', sw_S, an_S, exists_and_left, exists_const, exists_eq, decide_eq_true_eq, Bool.false_eq_true, if_true, if_false, Bool.not_eq_true', decide_eq_false_iff_not, Bool.not_true, Bool.not_false, ite_not, scal, and_false])
section
variable {P : Program} {w : World} {K : PySem.W.Frag} {mg : Str → Option Value} {base : Heap}
def sp_binit (CB : Addr) : Sp := fun vs H Q _ => ∃ b dx, vs = [.ref b] ∧ H b = some (.ins CB dx []) ∧ ∀ D W H', But b H H' → H D = none → H W = none → BkAt CB H' b D W [] [] → Q .non H'
theorem k_Book {f : Addr} {fd : FuncData} {CB : Addr} (M : Mk K CB f) (hm : mg "Book" = some (.ref CB)) (c_B : Cls K CB) (F : C8.Fun K "__init__" "Book.__init__" s_Book___init__ f fd) (b : Binds K fd ["self"] []) (b_definitions : NoAttr K CB "_definitions") (b_words : NoAttr K CB "_words") : C8.Mak P w K mg base 1 "Book" CB (sp_binit CB) [] := by
  refine C8.mak0 M hm F b .nil sc_Book___init__ (fun vs H Q E h => ?_) (fun cdv A outer s H vs Q E hr h => ?_)
  · obtain ⟨_, _, rfl, _⟩ := h
    rfl
  · obtain ⟨b0, dx, rfl, hb, ok⟩ := h
    refine ⟨_, (pss_cons (ps_fldK K (pv 0) pe_dnewK (by rfl)) (pss_one (ps_fldK K (pv 0) pe_dnewK (by rfl)))), ?_⟩
    walk_at "rd"
    intro D hD
    have nD : D ≠ b0 := (ne_of_none hb hD).symm
    refine flds_of c_B b_definitions ((same_upd hD) _ _ hb) (by decide) ?_
    obtain ⟨H1, hH1⟩ : ∃ H1, H1 = upd (upd H D (.dK [])) b0 (.ins CB dx (putF "_definitions" (.ref D) [])) := ⟨_, rfl⟩
    have b1 : But b0 H H1 := hH1 ▸ (But.of (same_upd hD)).trans But.upd
    have hD1 : H1 D = some (.dK []) := by rw [hH1, upd_ne nD, upd_same]
    have hb1 : H1 b0 = some (.ins CB dx (putF "_definitions" (.ref D) [])) := by rw [hH1, upd_same]
    rw [show upd (upd H D (.dK [])) b0 (.ins CB dx (putF (Str.ofString "_definitions") (.ref D) [])) = H1 from hH1.symm]
    walk_at "rd"
    intro W hW
    have nW : W ≠ b0 := (ne_of_none hb1 hW).symm
    have nDW : D ≠ W := ne_of_none hD1 hW
    refine flds_of c_B b_words ((same_upd hW) _ _ hb1) (by rw [show (putF "_definitions" (V.ref D) []).length = 1 from rfl]; decide) ?_
    refine ok D W _ ((b1.trans (But.of (same_upd hW))).trans But.upd) hD (But.none b1 nW hW) ⟨⟨dx, upd_same⟩, ?_, ?_, nDW, (fun _ h => nomatch h), List.nodup_nil, List.nodup_nil, Nat.zero_le _, Nat.zero_le _⟩
    · rw [upd_ne nD]; exact (same_upd hW) _ _ hD1
    · rw [upd_ne nW, upd_same]; rfl
def sp_has_definition (CB : Addr) : Sp := fun vs H Q _ => ∃ b D W ds ws n, vs = [.ref b, .str n] ∧ BkAt CB H b D W ds ws ∧ Q (.bl (findD ds n).isSome) H
theorem m_Book_has_definition {f : Addr} {fd : FuncData} {CB : Addr} (c_B : Cls K CB) (me : Meth K CB "has_definition" f) (F : C8.Fun K "has_definition" "Book.has_definition" s_Book_has_definition f fd) (b : Binds K fd ["self", "name"] []) (b_definitions : NoAttr K CB "_definitions") (b_words : NoAttr K CB "_words") : C8.Met P w K mg base 1 CB "has_definition" (sp_has_definition CB) [] := by
  refine C8.met0 c_B me F b sc_Book_has_definition (fun vs H Q E h => ?_) (fun cdv A outer s H vs Q E hr h => ?_)
  · obtain ⟨_, _, _, _, _, _, rfl, _⟩ := h
    rfl
  · obtain ⟨b0, D, W, ds, ws, n, rfl, hb, ok⟩ := h
    refine ⟨_, (pss_one (ps_ret (pe_cmp (pc_din (hu1 hr) (pv 1) (pe_fd K (pv 0) (by rfl)))))), ?_⟩
    walk_at "rd"
    obtain ⟨dx, hi⟩ := hb.ins
    refine fld_of c_B b_definitions hi (bf_d _ _) ⟨_, rfl, _, hb.getD n, ?_⟩
    rw [Option.isSome_map]
    exact ok
def sp_has_word (CB : Addr) : Sp := fun vs H Q _ => ∃ b D W ds ws n, vs = [.ref b, .str n] ∧ BkAt CB H b D W ds ws ∧ Q (.bl (findW ws n).isSome) H
theorem m_Book_has_word {f : Addr} {fd : FuncData} {CB : Addr} (c_B : Cls K CB) (me : Meth K CB "has_word" f) (F : C8.Fun K "has_word" "Book.has_word" s_Book_has_word f fd) (b : Binds K fd ["self", "word"] []) (b_definitions : NoAttr K CB "_definitions") (b_words : NoAttr K CB "_words") : C8.Met P w K mg base 1 CB "has_word" (sp_has_word CB) [] := by
  refine C8.met0 c_B me F b sc_Book_has_word (fun vs H Q E h => ?_) (fun cdv A outer s H vs Q E hr h => ?_)
  · obtain ⟨_, _, _, _, _, _, rfl, _⟩ := h
    rfl
  · obtain ⟨b0, D, W, ds, ws, n, rfl, hb, ok⟩ := h
    refine ⟨_, (pss_one (ps_ret (pe_cmp (pc_din (hu1 hr) (pv 1) (pe_fd K (pv 0) (by rfl)))))), ?_⟩
    walk_at "rd"
    obtain ⟨dx, hi⟩ := hb.ins
    refine fld_of c_B b_words hi (bf_w _ _) ⟨_, rfl, _, hb.getW n, ?_⟩
    rw [Option.isSome_map]
    exact ok
def sp_bdefinitions (CB : Addr) : Sp := fun vs H Q _ => ∃ b D W ds ws, vs = [.ref b] ∧ BkAt CB H b D W ds ws ∧ ∀ l, H l = none → Q (.ref l) (upd H l (.lst ((ds.map (·.name)).map V.str)))
theorem m_Book_definitions {f : Addr} {fd : FuncData} {CB : Addr} (c_B : Cls K CB) (me : Meth K CB "definitions" f) (F : C8.Fun K "definitions" "Book.definitions" s_Book_definitions f fd) (b : Binds K fd ["self"] []) (b_definitions : NoAttr K CB "_definitions") (b_words : NoAttr K CB "_words") (z_list : mg "list" = none) : C8.Met P w K mg base 1 CB "definitions" (sp_bdefinitions CB) [] := by
  refine C8.met0 c_B me F b sc_Book_definitions (fun vs H Q E h => ?_) (fun cdv A outer s H vs Q E hr h => ?_)
  · obtain ⟨_, _, _, _, _, rfl, _⟩ := h
    rfl
  · obtain ⟨b0, D, W, ds, ws, rfl, hb, ok⟩ := h
    refine ⟨_, (pss_one (ps_ret (pe_callTy (call_listD rfl) (by rfl) z_list (by decide +kernel) (pa_cons (pe_fd K (pv 0) (by rfl)) pa_nil)))), ?_⟩
    walk_at "rd"
    obtain ⟨dx, hi⟩ := hb.ins
    refine fld_of c_B b_definitions hi (bf_d _ _) ?_
    refine ⟨_, rfl, _, .inl hb.dd, fun p hp => ?_⟩
    have := ok p hp
    rw [List.map_map] at this
    rw [show List.map (fun kv => kV kv.fst) (kvD ds) = _ from by unfold kvD; exact List.map_map]
    exact this
def sp_bwords (CB : Addr) : Sp := fun vs H Q _ => ∃ b D W ds ws, vs = [.ref b] ∧ BkAt CB H b D W ds ws ∧ ∀ l, H l = none → Q (.ref l) (upd H l (.lst ((ws.map (·.1)).map V.str)))
theorem m_Book_words {f : Addr} {fd : FuncData} {CB : Addr} (c_B : Cls K CB) (me : Meth K CB "words" f) (F : C8.Fun K "words" "Book.words" s_Book_words f fd) (b : Binds K fd ["self"] []) (b_definitions : NoAttr K CB "_definitions") (b_words : NoAttr K CB "_words") (z_list : mg "list" = none) : C8.Met P w K mg base 1 CB "words" (sp_bwords CB) [] := by
  refine C8.met0 c_B me F b sc_Book_words (fun vs H Q E h => ?_) (fun cdv A outer s H vs Q E hr h => ?_)
  · obtain ⟨_, _, _, _, _, rfl, _⟩ := h
    rfl
  · obtain ⟨b0, D, W, ds, ws, rfl, hb, ok⟩ := h
    refine ⟨_, (pss_one (ps_ret (pe_callTy (call_listD rfl) (by rfl) z_list (by decide +kernel) (pa_cons (pe_fd K (pv 0) (by rfl)) pa_nil)))), ?_⟩
    walk_at "rd"
    obtain ⟨dx, hi⟩ := hb.ins
    refine fld_of c_B b_words hi (bf_w _ _) ?_
    refine ⟨_, rfl, _, .inl hb.ww, fun p hp => ?_⟩
    have := ok p hp
    rw [List.map_map] at this
    rw [show List.map (fun kv => kV kv.fst) (kvX ws) = _ from by unfold kvX; exact List.map_map]
    exact this
def sp_bparameters (CB CUn : Addr) : Sp := fun vs H Q E => ∃ b D W ds ws n, vs = [.ref b, .str n] ∧ BkAt CB H b D W ds ws ∧ (∀ d, findD ds n = some d → Q (.ref d.p) H) ∧ (findD ds n = none → Rz CUn "name" (.str n) H E)
theorem m_Book_parameters {f : Addr} {fd : FuncData} {CB : Addr} (c_B : Cls K CB) (me : Meth K CB "parameters" f) (F : C8.Fun K "parameters" "Book.parameters" s_Book_parameters f fd) (b : Binds K fd ["self", "name"] []) (b_definitions : NoAttr K CB "_definitions") (b_words : NoAttr K CB "_words") {CUn : Addr} (x_Unknown : ExF P w K mg base "Unknown" CUn "name") (m_Book_has_definition : C8.Met P w K mg base 1 CB "has_definition" (sp_has_definition CB) []) : MetX P w K mg base 3 CB "parameters" (sp_bparameters CB CUn) := by
  refine metX0 c_B me F b sc_Book_parameters (fun vs H Q E h => ?_) (fun cdv A outer s H vs Q E hr h => ?_)
  · obtain ⟨_, _, _, _, _, _, rfl, _⟩ := h
    rfl
  · obtain ⟨b0, D, W, ds, ws, n, rfl, hb, ok, no⟩ := h
    refine ⟨_, (pss_cons (ps_if (pt_not (pt_val (C8.pe_mt m_Book_has_definition hr (by decide) (pv 0) (pa_cons (pv 1) pa_nil)))) (pss_one (ps_raise rfl (takes_of rfl rfl rfl rfl) (pmk_ex x_Unknown hr (by decide) (by rfl) (pa_cons (pv 1) pa_nil)))) pss_nil) (pss_one (ps_ret (pe_ix (ixT K) (pe_dget (hu1 hr) (pe_fd K (pv 0) (by rfl)) (pv 1) (fun _ _ => rfl)) pe_int (fun _ _ => rfl))))), ?_⟩
    walk_at "rd"
    obtain ⟨dx, hi⟩ := hb.ins
    refine ⟨_, _, hi, bf_no _ _ (by decide +kernel) (by decide +kernel), b0, D, W, ds, ws, n, rfl, hb, ?_⟩
    cases e : findD ds n with
    | none =>
      refine ⟨_, rfl, ?_⟩
      rw [if_pos (by rfl)]
      exact ⟨by decide, fun a ha => raise_rz (no e) ha⟩
    | some d =>
      refine ⟨_, rfl, ?_⟩
      rw [if_neg (by simp)]
      refine fld_of c_B b_definitions hi (bf_d _ _) ?_
      have hg := hb.getD n
      rw [e] at hg
      refine ⟨_, rfl, _, hg, _, rfl, _, SqT.of (hb.df d (findD_mem e).1).1, _, atI_nat (j := 0) rfl, ok d e⟩
def sp_bformula (CB CUn : Addr) : Sp := fun vs H Q E => ∃ b D W ds ws n, vs = [.ref b, .str n] ∧ BkAt CB H b D W ds ws ∧ (∀ d, findD ds n = some d → Q (.ref d.q) H) ∧ (findD ds n = none → Rz CUn "name" (.str n) H E)
theorem m_Book_formula {f : Addr} {fd : FuncData} {CB : Addr} (c_B : Cls K CB) (me : Meth K CB "formula" f) (F : C8.Fun K "formula" "Book.formula" s_Book_formula f fd) (b : Binds K fd ["self", "name"] []) (b_definitions : NoAttr K CB "_definitions") (b_words : NoAttr K CB "_words") {CUn : Addr} (x_Unknown : ExF P w K mg base "Unknown" CUn "name") (m_Book_has_definition : C8.Met P w K mg base 1 CB "has_definition" (sp_has_definition CB) []) : MetX P w K mg base 3 CB "formula" (sp_bformula CB CUn) := by
  refine metX0 c_B me F b sc_Book_formula (fun vs H Q E h => ?_) (fun cdv A outer s H vs Q E hr h => ?_)
  · obtain ⟨_, _, _, _, _, _, rfl, _⟩ := h
    rfl
  · obtain ⟨b0, D, W, ds, ws, n, rfl, hb, ok, no⟩ := h
    refine ⟨_, (pss_cons (ps_if (pt_not (pt_val (C8.pe_mt m_Book_has_definition hr (by decide) (pv 0) (pa_cons (pv 1) pa_nil)))) (pss_one (ps_raise rfl (takes_of rfl rfl rfl rfl) (pmk_ex x_Unknown hr (by decide) (by rfl) (pa_cons (pv 1) pa_nil)))) pss_nil) (pss_one (ps_ret (pe_ix (ixT K) (pe_dget (hu1 hr) (pe_fd K (pv 0) (by rfl)) (pv 1) (fun _ _ => rfl)) pe_int (fun _ _ => rfl))))), ?_⟩
    walk_at "rd"
    obtain ⟨dx, hi⟩ := hb.ins
    refine ⟨_, _, hi, bf_no _ _ (by decide +kernel) (by decide +kernel), b0, D, W, ds, ws, n, rfl, hb, ?_⟩
    cases e : findD ds n with
    | none =>
      refine ⟨_, rfl, ?_⟩
      rw [if_pos (by rfl)]
      exact ⟨by decide, fun a ha => raise_rz (no e) ha⟩
    | some d =>
      refine ⟨_, rfl, ?_⟩
      rw [if_neg (by simp)]
      refine fld_of c_B b_definitions hi (bf_d _ _) ?_
      have hg := hb.getD n
      rw [e] at hg
      refine ⟨_, rfl, _, hg, _, rfl, _, SqT.of (hb.df d (findD_mem e).1).1, _, atI_nat (j := 1) rfl, ok d e⟩

end
end
section
local macro_rules | `(tactic| walk_at "rd") => `(tactic| simp only [tSeq, tNext, tAsg, gName, tRet, tRetN, tIfS, tDrop, tVar, tC, tOp, tUn, tTest, tCB, tCons, tNil, tB, tAnd, tOr, tNot, tAndV, tOrV, tNotV, tIf, tCall, tTup, tLst, tSl, tPart, tNoPart, tM0, tM1, tBM, tChain, tBreak, tCont, tNever, tAug, ipI, tPar, tyV_str,
  tFor_eq, tLc_eq, tMkO, tYes, wipe, Int.zero_add, gNil, gCons, gTup, gSub, iRng1, iRng2, iList, iTup, iStr, rI0, rI, rU, rEq, rNe, rIxL, rIxT, rIxS, Dw.rLen, rListOf, rTupOf, rNotB, rIsB, rMulS, rIn, rCat, rAppend, rCatA, rEqD, rNeD, C8.rSlX, tDGet, Int.toNat_natCast, WE, iEnum, iEnumT, iRev, rSum, tFd, tFs, tMake, tMakeS, tMeth, Dw.tMethS, tCallS, rSlL, rSlA, tDGet2, tDIn, tDNotIn, rSetD, rAll, rKIn, tBM0, rPop, rExtend, tAddT, rAddT, rSetT0, Dw.rSetL, rSortT, StX.tStar, tDNewK, tDisp, tPairs, L2.start, cxOf_K, cxOf_w, cxOf_prog,
  List.map_cons, List.map_nil, List.length_cons, List.length_nil, List.replicate, List.cons_append, List.nil_append, Nat.reduceAdd, Nat.reduceSub, Nat.zero_add, List.append_nil,
  List.set_cons_zero, List.set_cons_succ, List.getElem?_cons_zero, List.getElem?_cons_succ, Option.some.injEq, V.int.injEq, V.bl.injEq, V.ref.injEq, V.str.injEq, V.ty.injEq, List.cons.injEq, and_true, true_and, reduceCtorEq, false_and, exists_false, or_false, false_or, exists_eq_left, exists_eq_left', exists_eq', sw_S, an_S, exists_and_left, exists_const, exists_eq, decide_eq_true_eq, Bool.false_eq_true, if_true, if_false, Bool.not_eq_true', decide_eq_false_iff_not, Bool.not_true, Bool.not_false, ite_not, scal, and_false])
section
variable {P : Program} {w : World} {K : PySem.W.Frag} {mg : Str → Option Value} {base : Heap}
theorem kCmp_nw : ∀ k : Bool, ¬ kCmp k = cs "word" ∧ ¬ kCmp k = cs "call" := by decide +kernel
theorem kQf_nw : ∀ k : Bool, ¬ kQf k = cs "word" ∧ ¬ kQf k = cs "call" := by decide +kernel
theorem kBin_nw : ∀ k : Fin 4, ¬ kBin k = cs "word" ∧ ¬ kBin k = cs "call" := by decide +kernel
def sp_check (CB CCl CUn CMis : Addr) : Sp := fun vs H Q E => ∃ b D W ds ws t f, vs = [.ref b, .ref t] ∧ BkAt CB H b D W ds ws ∧ FmAt H t f ∧ (preF f).length ≤ 1000 ∧ FRes CCl CUn CMis H E (∀ H', Same H H' → Q .non H') (faultF ds ws f)
theorem c_check_formula {f : Addr} {fd : FuncData} (D : C8.Def K mg "check_formula" s_check_formula f fd) (b : Binds K fd ["book", "formula"] []) {CB CCl : Addr} {CUn : Addr} (x_Unknown : ExF P w K mg base "Unknown" CUn "name") {CMis : Addr} (x_Misused : ExF P w K mg base "Misused" CMis "why") (m_Book_has_definition : C8.Met P w K mg base 1 CB "has_definition" (sp_has_definition CB) []) (m_Book_has_word : C8.Met P w K mg base 1 CB "has_word" (sp_has_word CB) []) (m_Book_parameters : MetX P w K mg base 3 CB "parameters" (sp_bparameters CB CUn)) (c_nodes : C8.Cal P w K mg base 2 "nodes" sp_nodesF []) (z_len : mg "len" = none) : CalX P w K mg base 4 "check_formula" (sp_check CB CCl CUn CMis) := by
  refine calX0 D b sc_check_formula (fun vs H Q E h => ?_) (fun cdv A outer s H vs Q E hr h => ?_)
  · obtain ⟨_, _, _, _, _, _, _, rfl, _⟩ := h
    rfl
  · obtain ⟨b0, D, W, ds, ws, t, f1, rfl, hb, hf, hsz, ok⟩ := h
    refine ⟨_, (pss_one (ps_for (passes_of rfl) rfl (piL K (C8.pe_c c_nodes hr (by decide) (by rfl) (pa_cons (pv 1) pa_nil))) (pg_tup (n := 2) rfl (pgs_cons (pg_name (i := 2) sc_check_formula.nd rfl (by first | exact Or.inl rfl | exact Or.inr rfl)) (pgs_cons (pg_name (i := 3) sc_check_formula.nd rfl (by first | exact Or.inl rfl | exact Or.inr rfl)) pgs_nil))) (pss_cons (ps_if (PW.pt (pw_and (pt_cmpR (op_eq) (pe_ix (ixT K) (pv 2) pe_int (fun _ _ => rfl)) pe_str (nomark _)) (pw_and1 (pt_not (pt_val (C8.pe_mt m_Book_has_word hr (by decide) (pv 0) (pa_cons (pe_ix (ixT K) (pv 2) pe_int (fun _ _ => rfl)) pa_nil))))))) (pss_one (ps_raise rfl (takes_of rfl rfl rfl rfl) (pmk_ex x_Unknown hr (by decide) (by rfl) (pa_cons (pe_ix (ixT K) (pv 2) pe_int (fun _ _ => rfl)) pa_nil)))) pss_nil) (pss_one (ps_if (PW.pt (pw_and (pt_cmpR (op_eq) (pe_ix (ixT K) (pv 2) pe_int (fun _ _ => rfl)) pe_str (nomark _)) (pw_and1 (pt_cmpR (op_ne) (pe_callB (lenS K) (by rfl) z_len PySem.boot_len (pa_cons (pe_ix (ixT K) (pv 2) pe_int (fun _ _ => rfl)) pa_nil)) (pe_callB (lenS K) (by rfl) z_len PySem.boot_len (pa_cons (pe_mtx m_Book_parameters hr (by decide) (passes_call (takes_of rfl rfl rfl rfl) (fun _ _ _ _ h => h)) (pv 0) (pa_cons (pe_ix (ixT K) (pv 2) pe_int (fun _ _ => rfl)) pa_nil)) pa_nil)) (nomark _))))) (pss_one (ps_raise rfl (takes_of rfl rfl rfl rfl) (pmk_ex x_Misused hr (by decide) (by rfl) (pa_cons pe_str pa_nil)))) pss_nil))))), ?_⟩
    walk_at "rd"
    refine ⟨t, f1, rfl, hf, hsz, fun l es H1 s1 hl hl1 hnd => ⟨l, rfl, ⟨_, SqL.of hl1⟩, ?_⟩⟩
    refine for_listN (xs := es.map V.ref) (fun i σ H2 => (∃ u2 u3, [some (V.ref b0), some (V.ref t), u2, u3] = σ) ∧ Same H1 H2 ∧ ((preF f1).take i).findSome? (nfault ds ws) = none) ?_ ?_ ?_ ?_
    · exact ⟨⟨_, _, rfl⟩, Same.refl _, rfl⟩
    · rintro i σ H2 _ ⟨_, s2, _⟩
      exact SqL.of (s2 _ _ hl1)
    · rintro i x σ H2 N hx ⟨⟨u2, u3, rfl⟩, s2, hno⟩ hN
      rw [List.getElem?_map] at hx
      obtain ⟨a, ha, rfl⟩ := Option.map_eq_some_iff.mp hx
      obtain ⟨f2, t2, l2, hf2, ha1, hfa⟩ := hnd.at_ ha
      have ft := fs_take hf2 hno
      have hb2 := hb.same (s1.trans s2)
      obtain ⟨dx, hi⟩ := hb2.ins
      have hfa2 := hfa.tups (Tups.same s2)
      have hel := (Tups.same s2) _ _ ha1
      walk_at "rd"
      refine ⟨_, SqT.of hel, rfl, _, _, rfl, _, _, rfl, rfl, _, rfl, ?_⟩
      obtain ⟨xs, hx2⟩ := fm_hd hfa2
      have ne : ∀ s r : String, ¬ cs s = cs r → ¬ V.str (S (cs s)) = V.str (Str.ofString r) := fun s r h e => h (by rw [ofStr_S] at e; exact S_inj (V.str.inj e))
      by_cases hsk : ¬ hdF f2 = cs "word" ∧ ¬ hdF f2 = cs "call"
      · have e : nfault ds ws f2 = none := by
          cases f2 with
          | word x z o => exact absurd rfl hsk.1
          | call g zs => exact absurd rfl hsk.2
          | _ => rfl
        refine ⟨_, SqT.of hx2, _, atI_nat (j := 0) rfl, rfl, ?_⟩
        rw [if_neg (fun z => hsk.1 (by rw [ofStr_S] at z; exact S_inj (V.str.inj z)))]
        refine ⟨_, rfl, _, SqT.of hx2, _, atI_nat (j := 0) rfl, rfl, ?_⟩
        rw [if_neg (fun z => hsk.2 (by rw [ofStr_S] at z; exact S_inj (V.str.inj z)))]
        exact hN _ _ ⟨⟨_, _, rfl⟩, s2, ft.2 e⟩
      cases f2 with
      | word x z o =>
        refine ⟨_, SqT.of hfa2, _, atI_nat (j := 0) rfl, rfl, ?_⟩
        rw [if_pos (by rw [ofStr_S])]
        refine ⟨_, _, hi, bf_no _ _ (by decide +kernel) (by decide +kernel), _, rfl, _, SqT.of hfa2, _, atI_nat (j := 1) rfl, b0, D, W, ds, ws, S x, rfl, hb2, _, rfl, ?_⟩
        cases hw : (findW ws (S x)).isSome with
        | false =>
          rw [if_pos rfl]
          have e := ft.1 _ (show nfault ds ws (.word x z o) = some (.unk (S x)) by simp [nfault, hw])
          unfold faultF at ok
          rw [e] at ok
          exact ⟨_, rfl, _, SqT.of hfa2, _, atI_nat (j := 1) rfl, by decide, fun a ha => raise_rz (Rz.same ok (s1.trans s2)) ha⟩
        | true =>
          rw [if_neg (by decide)]
          refine ⟨_, rfl, _, SqT.of hfa2, _, atI_nat (j := 0) rfl, rfl, ?_⟩
          rw [if_neg (ne "word" "call" (by decide +kernel))]
          exact hN _ _ ⟨⟨_, _, rfl⟩, s2, ft.2 (by simp [nfault, hw])⟩
      | call g zs =>
        obtain ⟨u, h1, h2⟩ := hfa2
        refine ⟨_, SqT.of h1, _, atI_nat (j := 0) rfl, rfl, ?_⟩
        rw [if_neg (ne "call" "word" (by decide +kernel))]
        refine ⟨_, rfl, _, SqT.of h1, _, atI_nat (j := 0) rfl, rfl, ?_⟩
        rw [if_pos (by rw [ofStr_S])]
        refine ⟨_, rfl, _, SqT.of h1, _, atI_nat (j := 2) rfl, u, rfl, _, .inr (SqT.of h2), _, _, hi, bf_no _ _ (by decide +kernel) (by decide +kernel), _, rfl, _, SqT.of h1, _, atI_nat (j := 1) rfl, b0, D, W, ds, ws, S g, rfl, hb2, fun d hd => ?_, fun hd => ?_⟩
        · have hdp := (hb2.df d (findD_mem hd).1).2.1
          refine ⟨_, rfl, _, .inr (SqT.of hdp), ?_⟩
          rw [List.length_map, List.length_map]
          by_cases hl : d.ps.length = zs.length
          · rw [if_pos (by omega)]
            exact hN _ _ ⟨⟨_, _, rfl⟩, s2, ft.2 (by simp [nfault, hd, hl])⟩
          · rw [if_neg (by omega)]
            have e := ft.1 _ (show nfault ds ws (.call g zs) = some .mis by simp [nfault, hd, hl])
            unfold faultF at ok
            rw [e] at ok
            exact ⟨by decide, fun a ha => raise_rz (Rz.same ok (s1.trans s2)) ha⟩
        · have e := ft.1 _ (show nfault ds ws (.call g zs) = some (.unk (S g)) by simp [nfault, hd])
          unfold faultF at ok
          rw [e] at ok
          exact Rz.same ok (s1.trans s2)
      | pow z => exact absurd ⟨(by decide +kernel : ¬ cs "pow" = cs "word"), (by decide +kernel : ¬ cs "pow" = cs "call")⟩ hsk
      | not a2 => exact absurd ⟨(by decide +kernel : ¬ cs "not" = cs "word"), (by decide +kernel : ¬ cs "not" = cs "call")⟩ hsk
      | cmp k ps c => exact absurd (kCmp_nw k) hsk
      | qf k z a2 => exact absurd (kQf_nw k) hsk
      | bin k a2 b2 => exact absurd (kBin_nw k) hsk
    · rintro σ H2 ⟨⟨u2, u3, rfl⟩, s2, hno⟩
      rw [List.length_map, hnd.len, List.take_length] at hno
      unfold faultF at ok
      rw [hno] at ok
      exact ok _ (s1.trans s2)

end
end
section
local macro_rules | `(tactic| walk_at "rd") => `(tactic| simp only [tSeq, tNext, tAsg, gName, tRet, tRetN, tIfS, tDrop, tVar, tC, tOp, tUn, tTest, tCB, tCons, tNil, tB, tAnd, tOr, tNot, tAndV, tOrV, tNotV, tIf, tCall, tTup, tLst, tSl, tPart, tNoPart, tM0, tM1, tBM, tChain, tBreak, tCont, tNever, tAug, ipI, tPar, tyV_str,
  tFor_eq, tLc_eq, tMkO, tYes, wipe, Int.zero_add, gNil, gCons, gTup, gSub, iRng1, iRng2, iList, iTup, iStr, rI0, rI, rU, rEq, rNe, rIxL, rIxT, rIxS, Dw.rLen, rListOf, rTupOf, rNotB, rIsB, rMulS, rIn, rCat, rAppend, rCatA, rEqD, rNeD, C8.rSlX, tDGet, Int.toNat_natCast, WE, iEnum, iEnumT, iRev, rSum, tFd, tFs, tMake, tMakeS, tMeth, Dw.tMethS, tCallS, rSlL, rSlA, tDGet2, tDIn, tDNotIn, rSetD, rAll, rKIn, tBM0, rPop, rExtend, tAddT, rAddT, rSetT0, Dw.rSetL, rSortT, StX.tStar, tDNewK, tDisp, tPairs, L2.start, cxOf_K, cxOf_w, cxOf_prog,
  List.map_cons, List.map_nil, List.length_cons, List.length_nil, List.replicate, List.cons_append, List.nil_append, Nat.reduceAdd, Nat.reduceSub, Nat.zero_add, List.append_nil,
  List.set_cons_zero, List.set_cons_succ, List.getElem?_cons_zero, List.getElem?_cons_succ, Option.some.injEq, V.int.injEq, V.bl.injEq, V.ref.injEq, V.str.injEq, V.ty.injEq, List.cons.injEq, and_true, true_and, reduceCtorEq, false_and, exists_false, or_false, false_or, exists_eq_left, exists_eq_left', exists_eq', sw_S, an_S, exists_and_left, exists_const, exists_eq, decide_eq_true_eq, Bool.false_eq_true, if_true, if_false, Bool.not_eq_true', decide_eq_false_iff_not, Bool.not_true, Bool.not_false, ite_not, scal, and_false])
section
variable {P : Program} {w : World} {K : PySem.W.Frag} {mg : Str → Option Value} {base : Heap}
noncomputable def dueD (ds : List Df) (ws : List (Str × Addr)) (n : Str) (ps : List Str) (f : Fm) : Option Flt :=
  if (findD ds n).isSome = true then some (.cla n) else
    match dupF ps with
    | some x => some (.cla x)
    | none => match faultF ds ws f with
      | some e => some e
      | none => ((srt (setL (frN f []))).findSome? fun z => if z ∈ ps then none else some z).map .unk
theorem dueD_cla {ds : List Df} {ws : List (Str × Addr)} {n : Str} {ps : List Str} {f : Fm} {d : Df} (h : findD ds n = some d) : dueD ds ws n ps f = some (.cla n) := by
  unfold dueD
  rw [h, if_pos (by rfl)]
theorem dueD_dup {ds : List Df} {ws : List (Str × Addr)} {n x : Str} {ps : List Str} {f : Fm} (h : findD ds n = none) (h2 : dupF ps = some x) : dueD ds ws n ps f = some (.cla x) := by
  unfold dueD
  rw [h, h2, if_neg (by decide)]
theorem dueD_flt {ds : List Df} {ws : List (Str × Addr)} {n : Str} {x : Flt} {ps : List Str} {f : Fm} (h : findD ds n = none) (h2 : dupF ps = none) (h3 : faultF ds ws f = some x) : dueD ds ws n ps f = some x := by
  unfold dueD
  rw [h, h2, h3, if_neg (by decide)]
theorem dueD_unk {ds : List Df} {ws : List (Str × Addr)} {n : Str} {ps : List Str} {f : Fm} (h : findD ds n = none) (h2 : dupF ps = none) (h3 : faultF ds ws f = none) : dueD ds ws n ps f = ((srt (setL (frN f []))).findSome? fun z => if z ∈ ps then none else some z).map .unk := by
  unfold dueD
  rw [h, h2, h3, if_neg (by decide)]
def sp_define (CB CCl CUn CMis : Addr) : Sp := fun vs H Q E => ∃ b D W ds ws n T q ps f, vs = [.ref b, .str n, .ref T, .ref q] ∧ BkAt CB H b D W ds ws ∧ H T = some (.tup (ps.map V.str)) ∧ FmAt H q f ∧ f.Good ∧ fsize f ≤ 100 ∧ (frN f []).length ≤ 3000 ∧ (setL (frN f [])).length < 64 ∧ (preF f).length ≤ 1000 ∧ ps.length ≤ 100 ∧ ds.length < 100 ∧
  FRes CCl CUn CMis H E (∀ t H', H t = none → But D H H' → BkAt CB H' b D W (ds ++ [⟨n, ps, f, t, T, q⟩]) ws → Q .non H') (dueD ds ws n ps f)
theorem m_Book_define {f : Addr} {fd : FuncData} {CB : Addr} (c_B : Cls K CB) (me : Meth K CB "define" f) (F : C8.Fun K "define" "Book.define" s_Book_define f fd) (b : Binds K fd ["self", "name", "parameters", "formula"] []) (b_definitions : NoAttr K CB "_definitions") (b_words : NoAttr K CB "_words") {CMis : Addr} {CCl : Addr} (x_Clashing : ExF P w K mg base "Clashing" CCl "name") {CUn : Addr} (x_Unknown : ExF P w K mg base "Unknown" CUn "name") (m_Book_has_definition : C8.Met P w K mg base 1 CB "has_definition" (sp_has_definition CB) []) (c_check_formula : CalX P w K mg base 4 "check_formula" (sp_check CB CCl CUn CMis)) (c_free_names : C8.Cal P w K mg base 2 "free_names" sp_free []) (z_enumerate : mg "enumerate" = none) (z_tuple : mg "tuple" = none) : MetX P w K mg base 5 CB "define" (sp_define CB CCl CUn CMis) := by
  refine metX0 c_B me F b sc_Book_define (fun vs H Q E h => ?_) (fun cdv A outer s H vs Q E hr h => ?_)
  · obtain ⟨_, _, _, _, _, _, _, _, _, _, rfl, _⟩ := h
    rfl
  · obtain ⟨b0, D, W, ds, ws, n, T, q, ps, f1, rfl, hb, hT, hf, hgd, hsz, h3k, h64, hpf, hpl, hdl, ok⟩ := h
    refine ⟨_, (C8.pss_cut (ps_if (pt_val (C8.pe_mt m_Book_has_definition hr (by decide) (pv 0) (pa_cons (pv 1) pa_nil))) (pss_one (ps_raise rfl (takes_of rfl rfl rfl rfl) (pmk_ex x_Clashing hr (by decide) (by rfl) (pa_cons (pv 1) pa_nil)))) pss_nil) (C8.pss_cut (ps_for (passes_of rfl) rfl (piET K (by rfl) z_enumerate (pa_cons (pv 2) pa_nil)) (pg_tup (n := 2) rfl (pgs_cons (pg_name (i := 4) sc_Book_define.nd rfl (by first | exact Or.inl rfl | exact Or.inr rfl)) (pgs_cons (pg_name (i := 5) sc_Book_define.nd rfl (by first | exact Or.inl rfl | exact Or.inr rfl)) pgs_nil))) (pss_one (ps_if (pt_cmpR (inQ K) (pv 5) (pe_slice sl_tupA (pv 2) po_none (po_some (pv 4))) (by with_unfolding_all rfl)) (pss_one (ps_raise rfl (takes_of rfl rfl rfl rfl) (pmk_ex x_Clashing hr (by decide) (by rfl) (pa_cons (pv 5) pa_nil)))) pss_nil))) (C8.pss_cut (ps_expr (pe_cx c_check_formula hr (by decide) (passes_call (takes_of rfl rfl rfl rfl) (fun _ _ _ _ h => h)) (by rfl) (pa_cons (pv 0) (pa_cons (pv 3) pa_nil)))) (C8.pss_cut (ps_for (passes_of rfl) rfl (piL K (C8.pe_c c_free_names hr (by decide) (by rfl) (pa_cons (pv 3) pa_nil))) (pg_name (i := 6) sc_Book_define.nd rfl (by first | exact Or.inl rfl | exact Or.inr rfl)) (pss_one (ps_if (pt_cmpR (notInQ K) (pv 6) (pv 2) (by with_unfolding_all rfl)) (pss_one (ps_raise rfl (takes_of rfl rfl rfl rfl) (pmk_ex x_Unknown hr (by decide) (by rfl) (pa_cons (pv 6) pa_nil)))) pss_nil))) (pss_one (ps_asg (pe_tup (pa_cons (pe_callTy (tupOf K) (by rfl) z_tuple (by decide +kernel) (pa_cons (pv 2) pa_nil)) (pa_cons (pv 3) pa_nil))) (pg_sub (pe_fd K (pv 0) (by rfl)) (pv 1) (set_dict (hu1 hr))))))))), ?_⟩
    obtain ⟨dx, hi⟩ := hb.ins
    refine cut_by (fun σ' H' => [some (V.ref b0), some (V.str n), some (V.ref T), some (V.ref q), none, none, none] = σ' ∧ H = H' ∧ findD ds n = none) (fun N hN => ?_) ?_
    · walk_at "rd"
      refine ⟨_, _, hi, bf_no _ _ (by decide +kernel) (by decide +kernel), b0, D, W, ds, ws, n, rfl, hb, _, rfl, ?_⟩
      cases e : findD ds n with
      | some d =>
        rw [dueD_cla e] at ok
        rw [if_pos (by rfl)]
        exact ⟨by decide, fun a ha => raise_rz ok ha⟩
      | none =>
        rw [if_neg (by decide)]
        exact hN _ _ ⟨rfl, rfl, e⟩
    rintro σ' H' ⟨rfl, rfl, hnd⟩
    refine cut_by (fun σ' H' => (∃ u5 u6, [some (V.ref b0), some (V.str n), some (V.ref T), some (V.ref q), u5, u6, none] = σ') ∧ Same H H' ∧ dupF ps = none) (fun N hN => ?_) ?_
    · walk_at "rd"
      refine ⟨_, SqT.of hT, for_enumTN (xs := ps.map V.str) (fun i σ H2 => (∃ u5 u6, [some (V.ref b0), some (V.str n), some (V.ref T), some (V.ref q), u5, u6, none] = σ) ∧ Same H H2 ∧ ((List.range ps.length).take i).findSome? (dupAt ps) = none) ?_ ?_ ?_ ?_⟩
      · exact ⟨⟨_, _, rfl⟩, Same.refl _, rfl⟩
      · rintro i σ H2 _ ⟨_, s2, _⟩
        exact SqT.of (s2 _ _ hT)
      · rintro i x Tp σ H2 N2 hx ⟨⟨u5, u6, rfl⟩, s2, hno⟩ hTp hN2
        rw [List.getElem?_map] at hx
        obtain ⟨z, hz, rfl⟩ := Option.map_eq_some_iff.mp hx
        have hil := (List.getElem?_eq_some_iff.mp hz).1
        have ft := fs_take (show (List.range ps.length)[i]? = some i by simp [hil]) hno
        have s3 : Same H2 (upd H2 Tp (.tup [.int (i : Nat), .str z])) := same_upd hTp
        have s4 := s2.trans s3
        walk_at "rd"
        have hTT := s4 _ _ hT
        obtain ⟨H5, hH5⟩ : ∃ H5, H5 = upd H2 Tp (.tup [.int (i : Nat), .str z]) := ⟨_, rfl⟩
        have h5T : H5 Tp = some (.tup [.int (i : Nat), .str z]) := by rw [hH5, upd_same]
        rw [← hH5] at s4 hTT ⊢
        refine ⟨_, SqT.of h5T, rfl, _, _, rfl, _, _, rfl, rfl, (i : Nat), rfl, _, SqT.of hTT, fun hw => ?_, fun _ p hp => ?_⟩
        · exfalso
          have := hw.2
          rw [HT.sIx_nat, List.length_map] at this
          omega
        rw [cutV_to (by rw [List.length_map]; omega), ← List.map_take]
        refine ⟨_, .inr (SqT.of upd_same), rfl, flat_str _, ?_⟩
        rw [inV_str]
        have s6 : Same H5 (upd H5 p (.tup ((ps.take i).map V.str))) := same_upd hp
        by_cases hm : z ∈ ps.take i
        · rw [if_pos (by simpa using hm)]
          have e := ft.1 z (by unfold dupAt; rw [hz]; exact if_pos hm)
          rw [dueD_dup hnd e] at ok
          exact ⟨by decide, fun a ha => raise_rz (Rz.same ok (s4.trans s6)) ha⟩
        · rw [if_neg (by simpa using hm)]
          exact hN2 _ _ ⟨⟨_, _, rfl⟩, s4.trans s6, ft.2 (by unfold dupAt; rw [hz]; exact if_neg hm)⟩
      · rintro σ H2 ⟨⟨u5, u6, rfl⟩, s2, hno⟩
        rw [List.length_map, List.take_of_length_le (by simp)] at hno
        exact hN _ _ ⟨⟨_, _, rfl⟩, s2, hno⟩
    rintro σ' H1 ⟨⟨u5, u6, rfl⟩, s1, hdp⟩
    refine cut_by (fun σ' H' => [some (V.ref b0), some (V.str n), some (V.ref T), some (V.ref q), u5, u6, none] = σ' ∧ Same H H' ∧ faultF ds ws f1 = none) (fun N hN => ?_) ?_
    · walk_at "rd"
      refine ⟨b0, D, W, ds, ws, q, f1, rfl, hb.same s1, hf.tups (Tups.same s1), hpf, ?_⟩
      cases e : faultF ds ws f1 with
      | none => exact fun H2 s2 => hN _ _ ⟨rfl, s1.trans s2, e⟩
      | some x =>
        rw [dueD_flt hnd hdp e] at ok
        exact FRes.same ok s1
    rintro σ' H2 ⟨rfl, s2, hft⟩
    rw [dueD_unk hnd hdp hft] at ok
    refine cut_by (fun σ' H' => (∃ u7, [some (V.ref b0), some (V.str n), some (V.ref T), some (V.ref q), u5, u6, u7] = σ') ∧ Same H H' ∧ ((srt (setL (frN f1 []))).findSome? fun z => if z ∈ ps then none else some z) = none) (fun N hN => ?_) ?_
    · walk_at "rd"
      refine ⟨q, f1, rfl, hf.tups (Tups.same s2), hgd, hsz, h3k, h64, fun l ys H4 hp hso s4 hl hl4 => ⟨l, rfl, ⟨_, SqL.of hl4⟩, ?_⟩⟩
      rw [srt_of hp hso] at hl4
      have s24 := s2.trans s4
      refine for_listN (xs := (srt (setL (frN f1 []))).map V.str) (fun i σ H5 => (∃ u7, [some (V.ref b0), some (V.str n), some (V.ref T), some (V.ref q), u5, u6, u7] = σ) ∧ Same H4 H5 ∧ ((srt (setL (frN f1 []))).take i).findSome? (fun z => if z ∈ ps then none else some z) = none) ?_ ?_ ?_ ?_
      · exact ⟨⟨_, rfl⟩, Same.refl _, rfl⟩
      · rintro i σ H5 _ ⟨_, s5, _⟩
        exact SqL.of (s5 _ _ hl4)
      · rintro i x σ H5 N2 hx ⟨⟨u7, rfl⟩, s5, hno⟩ hN2
        rw [List.getElem?_map] at hx
        obtain ⟨z, hz, rfl⟩ := Option.map_eq_some_iff.mp hx
        have ft := fs_take hz hno
        have s45 := s24.trans s5
        walk_at "rd"
        refine ⟨_, .inr (SqT.of (s45 _ _ hT)), rfl, flat_str _, ?_⟩
        rw [inV_str]
        by_cases hm : z ∈ ps
        · rw [if_neg (by simpa using hm)]
          exact hN2 _ _ ⟨⟨_, rfl⟩, s5, ft.2 (if_pos hm)⟩
        · rw [if_pos (by simpa using hm)]
          have e := ft.1 z (if_neg hm)
          rw [e] at ok
          exact ⟨by decide, fun a ha => raise_rz (Rz.same ok s45) ha⟩
      · rintro σ H5 ⟨⟨u7, rfl⟩, s5, hno⟩
        rw [List.length_map, List.take_length] at hno
        exact hN _ _ ⟨⟨_, rfl⟩, s24.trans s5, hno⟩
    rintro σ' H3 ⟨⟨u7, rfl⟩, s3, hfr⟩
    rw [hfr] at ok
    have hb3 := hb.same s3
    obtain ⟨dx3, hi3⟩ := hb3.ins
    walk_at "rd"
    refine ⟨_, .inr ⟨SqT.of (s3 _ _ hT), by decide, fun p hp => ?_⟩⟩
    have sp := same_upd (o := .tup [V.ref T, V.ref q]) hp
    have hb4 := hb3.same sp
    refine fld_of c_B b_definitions (sp _ _ hi3) (bf_d _ _) ⟨_, rfl, _, hb4.putD ⟨n, ps, f1, p, T, q⟩ hnd, ?_⟩
    exact ok p _ (s3.free hp) ((But.of (s3.trans sp)).trans But.upd) (hb4.addD ⟨upd_same, sp _ _ (s3 _ _ hT), hf.tups (Tups.same (s3.trans sp))⟩ hnd hdl)

end
end
section
local macro_rules | `(tactic| walk_at "rd") => `(tactic| simp only [tSeq, tNext, tAsg, gName, tRet, tRetN, tIfS, tDrop, tVar, tC, tOp, tUn, tTest, tCB, tCons, tNil, tB, tAnd, tOr, tNot, tAndV, tOrV, tNotV, tIf, tCall, tTup, tLst, tSl, tPart, tNoPart, tM0, tM1, tBM, tChain, tBreak, tCont, tNever, tAug, ipI, tPar, tyV_str,
  tFor_eq, tLc_eq, tMkO, tYes, wipe, Int.zero_add, gNil, gCons, gTup, gSub, iRng1, iRng2, iList, iTup, iStr, rI0, rI, rU, rEq, rNe, rIxL, rIxT, rIxS, Dw.rLen, rListOf, rTupOf, rNotB, rIsB, rMulS, rIn, rCat, rAppend, rCatA, rEqD, rNeD, C8.rSlX, tDGet, Int.toNat_natCast, WE, iEnum, iEnumT, iRev, rSum, tFd, tFs, tMake, tMakeS, tMeth, Dw.tMethS, tCallS, rSlL, rSlA, tDGet2, tDIn, tDNotIn, rSetD, rAll, rKIn, tBM0, rPop, rExtend, tAddT, rAddT, rSetT0, Dw.rSetL, rSortT, StX.tStar, tDNewK, tDisp, tPairs, L2.start, cxOf_K, cxOf_w, cxOf_prog,
  List.map_cons, List.map_nil, List.length_cons, List.length_nil, List.replicate, List.cons_append, List.nil_append, Nat.reduceAdd, Nat.reduceSub, Nat.zero_add, List.append_nil,
  List.set_cons_zero, List.set_cons_succ, List.getElem?_cons_zero, List.getElem?_cons_succ, Option.some.injEq, V.int.injEq, V.bl.injEq, V.ref.injEq, V.str.injEq, V.ty.injEq, List.cons.injEq, and_true, true_and, reduceCtorEq, false_and, exists_false, or_false, false_or, exists_eq_left, exists_eq_left', exists_eq', sw_S, an_S, exists_and_left, exists_const, exists_eq, decide_eq_true_eq, Bool.false_eq_true, if_true, if_false, Bool.not_eq_true', decide_eq_false_iff_not, Bool.not_true, Bool.not_false, ite_not, scal, and_false])
section
variable {P : Program} {w : World} {K : PySem.W.Frag} {mg : Str → Option Value} {base : Heap}
def sp_tell (CB CCl : Addr) : Sp := fun vs H Q E => ∃ b D W ds ws x m, vs = [.ref b, .str x, .ref m] ∧ BkAt CB H b D W ds ws ∧ ws.length < 100 ∧ (∀ d, findW ws x = some d → Rz CCl "name" (.str x) H E) ∧ (findW ws x = none → ∀ H', But W H H' → BkAt CB H' b D W ds (ws ++ [(x, m)]) → Q .non H')
theorem m_Book_tell {f : Addr} {fd : FuncData} {CB : Addr} (c_B : Cls K CB) (me : Meth K CB "tell" f) (F : C8.Fun K "tell" "Book.tell" s_Book_tell f fd) (b : Binds K fd ["self", "word", "told"] []) (b_definitions : NoAttr K CB "_definitions") (b_words : NoAttr K CB "_words") {CCl : Addr} (x_Clashing : ExF P w K mg base "Clashing" CCl "name") (m_Book_has_word : C8.Met P w K mg base 1 CB "has_word" (sp_has_word CB) []) : MetX P w K mg base 3 CB "tell" (sp_tell CB CCl) := by
  refine metX0 c_B me F b sc_Book_tell (fun vs H Q E h => ?_) (fun cdv A outer s H vs Q E hr h => ?_)
  · obtain ⟨_, _, _, _, _, _, _, rfl, _⟩ := h
    rfl
  · obtain ⟨b0, D, W, ds, ws, x, m, rfl, hb, hl, no, ok⟩ := h
    refine ⟨_, (pss_cons (ps_if (pt_val (C8.pe_mt m_Book_has_word hr (by decide) (pv 0) (pa_cons (pv 1) pa_nil))) (pss_one (ps_raise rfl (takes_of rfl rfl rfl rfl) (pmk_ex x_Clashing hr (by decide) (by rfl) (pa_cons (pv 1) pa_nil)))) pss_nil) (pss_one (ps_asg (pv 2) (pg_sub (pe_fd K (pv 0) (by rfl)) (pv 1) (set_dict (hu1 hr)))))), ?_⟩
    walk_at "rd"
    obtain ⟨dx, hi⟩ := hb.ins
    refine ⟨_, _, hi, bf_no _ _ (by decide +kernel) (by decide +kernel), b0, D, W, ds, ws, x, rfl, hb, ?_⟩
    cases e : findW ws x with
    | some d =>
      refine ⟨_, rfl, ?_⟩
      rw [if_pos (by rfl)]
      exact ⟨by decide, fun a ha => raise_rz (no d e) ha⟩
    | none =>
      refine ⟨_, rfl, ?_⟩
      rw [if_neg (by decide)]
      refine fld_of c_B b_words hi (bf_w _ _) ⟨_, rfl, _, hb.putW (x, m) e, ?_⟩
      exact ok e _ But.upd (hb.addW (x, m) e hl)
def sp_btold (CB CUn : Addr) : Sp := fun vs H Q E => ∃ b D W ds ws x, vs = [.ref b, .str x] ∧ BkAt CB H b D W ds ws ∧ (∀ d, findW ws x = some d → Q (.ref d.2) H) ∧ (findW ws x = none → Rz CUn "name" (.str x) H E)
theorem m_Book_told {f : Addr} {fd : FuncData} {CB : Addr} (c_B : Cls K CB) (me : Meth K CB "told" f) (F : C8.Fun K "told" "Book.told" s_Book_told f fd) (b : Binds K fd ["self", "word"] []) (b_definitions : NoAttr K CB "_definitions") (b_words : NoAttr K CB "_words") {CUn : Addr} (x_Unknown : ExF P w K mg base "Unknown" CUn "name") (m_Book_has_word : C8.Met P w K mg base 1 CB "has_word" (sp_has_word CB) []) : MetX P w K mg base 3 CB "told" (sp_btold CB CUn) := by
  refine metX0 c_B me F b sc_Book_told (fun vs H Q E h => ?_) (fun cdv A outer s H vs Q E hr h => ?_)
  · obtain ⟨_, _, _, _, _, _, rfl, _⟩ := h
    rfl
  · obtain ⟨b0, D, W, ds, ws, x, rfl, hb, ok, no⟩ := h
    refine ⟨_, (pss_cons (ps_if (pt_not (pt_val (C8.pe_mt m_Book_has_word hr (by decide) (pv 0) (pa_cons (pv 1) pa_nil)))) (pss_one (ps_raise rfl (takes_of rfl rfl rfl rfl) (pmk_ex x_Unknown hr (by decide) (by rfl) (pa_cons (pv 1) pa_nil)))) pss_nil) (pss_one (ps_ret (pe_dget (hu1 hr) (pe_fd K (pv 0) (by rfl)) (pv 1) (fun _ _ => rfl))))), ?_⟩
    walk_at "rd"
    obtain ⟨dx, hi⟩ := hb.ins
    refine ⟨_, _, hi, bf_no _ _ (by decide +kernel) (by decide +kernel), b0, D, W, ds, ws, x, rfl, hb, ?_⟩
    cases e : findW ws x with
    | none =>
      refine ⟨_, rfl, ?_⟩
      rw [if_pos (by rfl)]
      exact ⟨by decide, fun a ha => raise_rz (no e) ha⟩
    | some d =>
      refine ⟨_, rfl, ?_⟩
      rw [if_neg (by simp)]
      refine fld_of c_B b_words hi (bf_w _ _) ?_
      have hg := hb.getW x
      rw [e] at hg
      exact ⟨_, rfl, _, hg, ok d e⟩

end
end
section
local macro_rules | `(tactic| walk_at "rd") => `(tactic| simp only [tSeq, tNext, tAsg, gName, tRet, tRetN, tIfS, tDrop, tVar, tC, tOp, tUn, tTest, tCB, tCons, tNil, tB, tAnd, tOr, tNot, tAndV, tOrV, tNotV, tIf, tCall, tTup, tLst, tSl, tPart, tNoPart, tM0, tM1, tBM, tChain, tBreak, tCont, tNever, tAug, ipI, tPar, tyV_str,
  tFor_eq, tLc_eq, tYes, wipe, Int.zero_add, gNil, gCons, gTup, gSub, iRng1, iRng2, iList, iTup, iStr, rI0, rI, rU, rEq, rNe, rIxL, rIxT, rIxS, Dw.rLen, rListOf, rTupOf, rNotB, rIsB, rMulS, rIn, rCat, rAppend, rCatA, C8.rSlX, tDGet, rMin, tFd, tFs, tMeth, tMake, rAll, tCKw, tBits, rSum, rMaxDf, iEnum, Int.toNat_natCast, tDGet2, tDIn, tDNotIn, rAll, tBM0, rPop, rExtend, tDNewK, tDisp, tPairs, L2.start, cxOf_K, cxOf_w, cxOf_prog,
  List.map_cons, List.map_nil, List.length_cons, List.length_nil, List.replicate, List.cons_append, List.nil_append, Nat.reduceAdd, Nat.reduceSub, Nat.zero_add, List.append_nil,
  List.set_cons_zero, List.set_cons_succ, List.getElem?_cons_zero, List.getElem?_cons_succ, Option.some.injEq, V.int.injEq, V.bl.injEq, V.ref.injEq, V.str.injEq, V.ty.injEq, List.cons.injEq, and_true, true_and, reduceCtorEq, false_and, exists_false, or_false, false_or, exists_eq_left, exists_eq_left', exists_eq', sw_S, an_S, exists_and_left, exists_const, exists_eq, decide_eq_true_eq, Bool.false_eq_true, if_true, if_false, Bool.not_eq_true', decide_eq_false_iff_not, Bool.not_true, Bool.not_false, ite_not, scal, and_false])
local macro_rules | `(tactic| walk_at "ne") => `(tactic| first
  | assumption
  | exact Ne.symm (by assumption)
  | exact Pool.ne (by assumption) (by assumption)
  | exact Ne.symm (Pool.ne (by assumption) (by assumption))
  | (refine ne_of_none ?_ (by assumption); walk_at "hp")
  | (refine Ne.symm (ne_of_none ?_ (by assumption)); walk_at "hp"))
local macro_rules | `(tactic| walk_at "hp") => `(tactic| first
  | assumption
  | exact upd_same
  | (refine Eq.trans (upd_ne (by walk_at "ne")) ?_; walk_at "hp")
  | (refine Same.get (by assumption) ?_; walk_at "hp")
  | (refine But.get (by assumption) (by walk_at "ne") ?_; walk_at "hp"))
section
variable {P : Program} {w : World} {K : PySem.W.Frag} {mg : Str → Option Value} {base : Heap}
def sp_is_state : Sp := fun vs H Q _ => ∃ (i : Int) (n : Nat), vs = [.int i, nv n] ∧ Q (.bl (decide (0 ≤ i) && decide (i < (n : Int)))) H
theorem c_is_state {f : Addr} {fd : FuncData} (D : C8.Def K mg "is_state" s_is_state f fd) (b : Binds K fd ["value", "size"] []) (z_isinstance : mg "isinstance" = none) (z_int : mg "int" = none) (z_bool : mg "bool" = none) : C8.Cal P w K mg base 1 "is_state" sp_is_state [] := by
  refine C8.cal0 D b .nil sc_is_state (fun vs H Q E h => ?_) (fun cdv A outer s H vs Q E hr h => ?_)
  · obtain ⟨_, _, rfl, _⟩ := h
    rfl
  · obtain ⟨i, n, rfl, ok⟩ := h
    refine ⟨_, (pss_one (ps_ret (pe_and (pe_callB (isiK K) (by rfl) z_isinstance (by decide +kernel) (pa_cons (pv 0) (pa_cons (pe_bltn (by rfl) z_int (by decide +kernel) (v := .ty "int") rfl) pa_nil))) (pe_and (pe_not (pe_callB (isiK K) (by rfl) z_isinstance (by decide +kernel) (pa_cons (pv 0) (pa_cons (pe_bltn (by rfl) z_bool (by decide +kernel) (v := .ty "bool") rfl) pa_nil)))) (pe_one (pe_chain op_le op_lt pe_int (pv 0) (pv 1))))))), ?_⟩
    walk_at "rd"
    refine isi_of (.base (.int i)) (kit_ty (by decide +kernel) : _ = some true) ?_
    walk_at "rd"
    refine isi_of (.base (.int i)) (kit_ty (by decide +kernel) : _ = some false) ?_
    walk_at "rd"
    by_cases h : 0 ≤ i
    · rw [if_pos h]
      rw [decide_eq_true h, Bool.true_and] at ok
      exact ok
    · rw [if_neg h]
      rw [decide_eq_false h, Bool.false_and] at ok
      exact ok
def sp_is_table : Sp := fun vs H Q _ => ∃ (t : Addr) (rs : List Addr) (T : List (List Int)) (l : Nat), vs = [.ref t, nv l] ∧ H t = some (.lst (rs.map V.ref)) ∧ RowsAt H rs T ∧ T.length ≤ 500 ∧ (∀ r ∈ T, r.length ≤ 500) ∧ ∀ H', Same H H' → Q (.bl (goodT T l)) H'
theorem c_is_table {f : Addr} {fd : FuncData} (D : C8.Def K mg "is_table" s_is_table f fd) (b : Binds K fd ["table", "length"] []) (c_is_state : C8.Cal P w K mg base 1 "is_state" sp_is_state []) (z_len : mg "len" = none) (z_all : mg "all" = none) : C8.Cal P w K mg base 2 "is_table" sp_is_table [] := by
  refine C8.cal0 D b .nil sc_is_table (fun vs H Q E h => ?_) (fun cdv A outer s H vs Q E hr h => ?_)
  · obtain ⟨_, _, _, _, rfl, _⟩ := h
    rfl
  · obtain ⟨t, rs, T, l, rfl, ht, hr1, hn, hrn, ok⟩ := h
    refine ⟨_, (pss_cons (ps_for PassesOwn.never rfl (piL K (pv 0)) (pg_name (i := 2) sc_is_table.nd rfl (by first | exact Or.inl rfl | exact Or.inr rfl)) (pss_one (ps_if (PW.pt (pw_or (pt_cmpR (op_ne) (pe_callB (lenS K) (by rfl) z_len PySem.boot_len (pa_cons (pv 2) pa_nil)) (pv 1) (nomark _)) (pw_or1 (pt_not (pt_val (pe_callB (allQ K) (by rfl) z_all (by decide +kernel) (pa_cons (pe_lc (own := [("successor", 3)]) (g := (gName 3)) (tt := tYes) rfl sc_is_table.nd (piL K (pv 2)) (blkOk_by (N := N_is_table) (sc := C8.fnScope s_is_table) (by decide +kernel)) (fun _ _ _ _ _ => (pg_name (i := 3) sc_is_table.nd rfl (by first | exact Or.inl rfl | exact Or.inr rfl))) (fun _ _ _ _ _ => pts_nil) (fun _ _ _ _ _ => (C8.pe_c c_is_state hr (by decide) (by rfl) (pa_cons (pv 3) (pa_cons (pe_callB (lenS K) (by rfl) z_len PySem.boot_len (pa_cons (pv 0) pa_nil)) pa_nil))))) pa_nil))))))) (pss_one (ps_ret pe_bl)) pss_nil))) (pss_one (ps_ret pe_bl))), ?_⟩
    walk_at "rd"
    refine ⟨⟨_, SqL.of ht⟩, for_listN (xs := rs.map V.ref) (fun i σ H2 => (∃ o, σ = [some (.ref t), some (nv l), o, none]) ∧ Same H H2 ∧ (T.take i).all (goodRow T.length l) = true) ?_ ?_ ?_ ?_⟩
    · exact ⟨⟨none, rfl⟩, Same.refl _, rfl⟩
    · rintro i σ H2 _ ⟨_, s2, _⟩
      exact SqL.of (s2 _ _ ht)
    · rintro i x σ H2 N hx ⟨⟨o, rfl⟩, s2, hg⟩ hN
      rw [List.getElem?_map] at hx
      obtain ⟨a, ha, rfl⟩ := Option.map_eq_some_iff.mp hx
      have hi : i < T.length := by rw [← hr1.len]; exact (List.getElem?_eq_some_iff.mp ha).1
      have hT : T[i]? = some T[i] := List.getElem?_eq_getElem hi
      obtain ⟨r, hr0⟩ : ∃ r, r = T[i] := ⟨_, rfl⟩
      rw [← hr0] at hT
      have hrow := s2 _ _ (hr1.at_ i a r ha hT)
      have hrl := hrn r (List.mem_of_getElem? hT)
      have htk : (T.take (i + 1)).all (goodRow T.length l) = goodRow T.length l r := by
        rw [List.take_add_one, hT, List.all_append, hg]
        simp
      have bad : goodRow T.length l r = false → goodT T l = false := fun e => by
        unfold goodT
        rw [List.all_eq_false]
        exact ⟨r, List.mem_of_getElem? hT, by rw [e]; decide⟩
      walk_at "rd"
      refine ⟨_, .inl (SqL.of hrow), ?_⟩
      rw [List.length_map]
      by_cases hl : r.length = l
      · rw [if_pos (by omega)]
        refine ⟨⟨_, SqL.of hrow⟩, fun D hD => ?_⟩
        refine lc_map (walk_list (xs := r.map V.int)) (fun j => .bl (decide (0 ≤ r.getD j 0) && decide (r.getD j 0 < (T.length : Int)))) (by rw [List.length_map]; omega) hD (fun H5 s5 => s5.seq (SqL.of hrow)) ?_ ?_
        · rintro j x H5 H6 N2 hj s5 ⟨rfl, ez⟩ hN2
          rw [List.length_map] at hj
          rw [List.getElem?_map, List.getElem?_eq_getElem hj] at ez
          cases ez
          walk_at "rd"
          refine ⟨_, .inl (SqL.of ((s2.trans s5) _ _ ht)), r[j], T.length, ?_, ?_⟩
          · rw [List.length_map, hr1.len]
          · have h := hN2 _ (Same.refl _)
            rw [List.getD_eq_getElem?_getD, List.getElem?_eq_getElem hj] at h
            exact h
        · intro H5 s5 h5
          have e2 : (List.range r.length).map (fun j => V.bl (decide (0 ≤ r.getD j 0) && decide (r.getD j 0 < (T.length : Int)))) = (r.map fun x => decide (0 ≤ x) && decide (x < (T.length : Int))).map V.bl := by
            refine List.ext_getElem (by simp) fun j p q => ?_
            have hj : j < r.length := by simpa using p
            simp only [List.getElem_map, List.getElem_range]
            rw [List.getD_eq_getElem?_getD, List.getElem?_eq_getElem hj]
            rfl
          rw [List.length_map, e2] at h5
          refine ⟨_, SqL.of h5, ?_⟩
          have e3 : (r.map fun x => decide (0 ≤ x) && decide (x < (T.length : Int))).all id = goodRow T.length l r := by
            unfold goodRow
            rw [List.all_map, decide_eq_true hl, Bool.true_and]
            rfl
          rw [e3]
          cases hb : goodRow T.length l r with
          | true =>
            exact hN _ _ ⟨⟨_, rfl⟩, s2.trans s5, by rw [htk, hb]⟩
          | false =>
            have h := ok _ (s2.trans s5)
            rw [bad hb] at h
            exact h
      · rw [if_neg (by omega)]
        have h := ok _ s2
        rw [bad (by unfold goodRow; rw [decide_eq_false hl, Bool.false_and])] at h
        exact h
    · rintro σ H2 ⟨⟨o, rfl⟩, s2, hg⟩
      walk_at "rd"
      rw [List.length_map, hr1.len, List.take_length] at hg
      have h := ok _ s2
      unfold goodT at h
      rw [hg] at h
      exact h
def sp_is_output : Sp := fun vs H Q _ => ∃ i : Int, vs = [.int i] ∧ Q (.bl (decide (0 ≤ i) && decide (i ≤ 9))) H
theorem c_is_output {f : Addr} {fd : FuncData} (D : C8.Def K mg "is_output" s_is_output f fd) (b : Binds K fd ["value"] []) (z_isinstance : mg "isinstance" = none) (z_int : mg "int" = none) (z_bool : mg "bool" = none) (g_OUTPUT_LIMIT : ∃ u, mg "OUTPUT_LIMIT" = some u ∧ RelV (.int 9) u) : C8.Cal P w K mg base 1 "is_output" sp_is_output [] := by
  refine C8.cal0 D b .nil sc_is_output (fun vs H Q E h => ?_) (fun cdv A outer s H vs Q E hr h => ?_)
  · obtain ⟨_, rfl, _⟩ := h
    rfl
  · obtain ⟨i, rfl, ok⟩ := h
    refine ⟨_, (pss_one (ps_ret (pe_and (pe_callB (isiK K) (by rfl) z_isinstance (by decide +kernel) (pa_cons (pv 0) (pa_cons (pe_bltn (by rfl) z_int (by decide +kernel) (v := .ty "int") rfl) pa_nil))) (pe_and (pe_not (pe_callB (isiK K) (by rfl) z_isinstance (by decide +kernel) (pa_cons (pv 0) (pa_cons (pe_bltn (by rfl) z_bool (by decide +kernel) (v := .ty "bool") rfl) pa_nil)))) (pe_one (pe_chain op_le op_le pe_int (pv 0) (C8.pe_gc (by rfl) g_OUTPUT_LIMIT))))))), ?_⟩
    walk_at "rd"
    refine isi_of (.base (.int i)) (kit_ty (by decide +kernel) : _ = some true) ?_
    walk_at "rd"
    refine isi_of (.base (.int i)) (kit_ty (by decide +kernel) : _ = some false) ?_
    walk_at "rd"
    by_cases h : 0 ≤ i
    · rw [if_pos h]
      rw [decide_eq_true h, Bool.true_and] at ok
      exact ok
    · rw [if_neg h]
      rw [decide_eq_false h, Bool.false_and] at ok
      exact ok
def sp_tinit (C : Addr) : Sp := fun vs H Q _ => ∃ (m dx o t : Addr) (rs : List Addr) (T : List (List Int)) (outs : List Int), vs = [.ref m, .ref o, .ref t] ∧ H m = some (.ins C dx []) ∧ H o = some (.lst (outs.map V.int)) ∧ H t = some (.lst (rs.map V.ref)) ∧ RowsAt H rs T ∧ TOk T outs ∧
  ∀ L H', But m H H' → ToldP C H' L m T outs → (∀ a ∈ L, a = m ∨ H a = none) → Q .non H'
theorem k_Told {f : Addr} {fd : FuncData} {CT : Addr} (M : Mk K CT f) (hm : mg "Told" = some (.ref CT)) (c_T : Cls K CT) (F : C8.Fun K "__init__" "Told.__init__" s_Told___init__ f fd) (b : Binds K fd ["self", "outputs", "table"] []) (t_outputs : NoAttr K CT "outputs") (t_table : NoAttr K CT "table") (c_is_output : C8.Cal P w K mg base 1 "is_output" sp_is_output []) (c_is_table : C8.Cal P w K mg base 2 "is_table" sp_is_table []) (z_len : mg "len" = none) (z_enumerate : mg "enumerate" = none) (z_list : mg "list" = none) (z_all : mg "all" = none) (g_TOLD_STATES : ∃ u, mg "TOLD_STATES" = some u ∧ RelV (.int 40) u) : C8.Mak P w K mg base 3 "Told" CT (sp_tinit CT) [] := by
  refine C8.mak0 M hm F b .nil sc_Told___init__ (fun vs H Q E h => ?_) (fun cdv A outer s H vs Q E hr h => ?_)
  · obtain ⟨_, _, _, _, _, _, _, rfl, _⟩ := h
    rfl
  · obtain ⟨m, dx, o, t, rs, T, outs, rfl, hm, ho, ht, hr1, ok0, ok⟩ := h
    refine ⟨_, (pss_cons (ps_if (PW.pt (pw_or (pt_cmpR (op_eq) (pe_callB (lenS K) (by rfl) z_len PySem.boot_len (pa_cons (pv 1) pa_nil)) pe_int (nomark _)) (pw_or1 (pt_not (pt_val (pe_callB (allQ K) (by rfl) z_all (by decide +kernel) (pa_cons (pe_lc (own := [("output", 5)]) (g := (gName 5)) (tt := tYes) rfl sc_Told___init__.nd (piL K (pv 1)) (blkOk_by (N := N_Told___init__) (sc := C8.fnScope s_Told___init__) (by decide +kernel)) (fun _ _ _ _ _ => (pg_name (i := 5) sc_Told___init__.nd rfl (by first | exact Or.inl rfl | exact Or.inr rfl))) (fun _ _ _ _ _ => pts_nil) (fun _ _ _ _ _ => (C8.pe_c c_is_output hr (by decide) (by rfl) (pa_cons (pv 5) pa_nil)))) pa_nil))))))) (pss_one ps_never) pss_nil) (pss_cons (ps_if (PW.pt (pw_or (pt_cmpR (op_ne) (pe_callB (lenS K) (by rfl) z_len PySem.boot_len (pa_cons (pv 2) pa_nil)) (pe_callB (lenS K) (by rfl) z_len PySem.boot_len (pa_cons (pv 1) pa_nil)) (nomark _)) (pw_or1 (pt_not (pt_val (C8.pe_c c_is_table hr (by decide) (by rfl) (pa_cons (pv 2) (pa_cons pe_int pa_nil)))))))) (pss_one ps_never) pss_nil) (pss_cons (ps_if (pt_cmpR (op_gt) (pe_callB (lenS K) (by rfl) z_len PySem.boot_len (pa_cons (pv 1) pa_nil)) (C8.pe_gc (by rfl) g_TOLD_STATES) (nomark _)) (pss_one ps_never) pss_nil) (C8.pss_cut (ps_for PassesOwn.never rfl (piE K (by rfl) z_enumerate (pa_cons (pv 2) pa_nil)) (pg_tup (n := 2) rfl (pgs_cons (pg_name (i := 3) sc_Told___init__.nd rfl (by first | exact Or.inl rfl | exact Or.inr rfl)) (pgs_cons (pg_name (i := 4) sc_Told___init__.nd rfl (by first | exact Or.inl rfl | exact Or.inr rfl)) pgs_nil))) (pss_one (ps_if (pt_cmpR (op_ne) (pe_ix (ixL K) (pv 1) (pv 3) (fun _ _ => rfl)) (pe_ix (ixL K) (pv 1) (pe_ix (ixL K) (pv 4) pe_int (fun _ _ => rfl)) (fun _ _ => rfl)) (nomark _)) (pss_one ps_never) pss_nil))) (pss_cons (ps_fldK K (pv 0) (pe_callTy (listOf K) (by rfl) z_list (by decide +kernel) (pa_cons (pv 1) pa_nil)) (by rfl)) (pss_one (ps_fldK K (pv 0) (pe_lc (own := [("row", 4)]) (g := (gName 4)) (tt := tYes) rfl sc_Told___init__.nd (piL K (pv 2)) (blkOk_by (N := N_Told___init__) (sc := C8.fnScope s_Told___init__) (by decide +kernel)) (fun _ _ _ _ _ => (pg_name (i := 4) sc_Told___init__.nd rfl (by first | exact Or.inl rfl | exact Or.inr rfl))) (fun _ _ _ _ _ => pts_nil) (fun _ _ _ _ _ => (pe_callTy (listOf K) (by rfl) z_list (by decide +kernel) (pa_cons (pv 4) pa_nil)))) (by rfl)))))))), ?_⟩
    walk_at "rd"
    have hT0 : ((rs.map V.ref).length : Int) = (T.length : Int) := by rw [List.length_map, hr1.len]
    have hout : ((outs.map V.int).length : Int) = (T.length : Int) := by rw [List.length_map, ok0.al]
    have hpos := ok0.pos
    have hle := ok0.le
    have hrw : ∀ r ∈ T, r.length = 2 := fun r hr2 => by
      have h1 := List.all_eq_true.mp ok0.good r hr2
      unfold goodRow at h1
      rw [Bool.and_eq_true, decide_eq_true_eq] at h1
      exact h1.1
    refine ⟨_, .inl (SqL.of ho), ?_⟩
    rw [hout, if_neg (by omega)]
    refine ⟨⟨_, SqL.of ho⟩, fun D hD => ?_⟩
    refine lc_map (walk_list (xs := outs.map V.int)) (fun j => .bl (decide (0 ≤ outs.getD j 0) && decide (outs.getD j 0 ≤ 9))) (by rw [List.length_map, ok0.al]; omega) hD (fun H5 s5 => s5.seq (SqL.of ho)) ?_ ?_
    · rintro j x H5 H6 N2 hj s5 ⟨rfl, ez⟩ hN2
      rw [List.length_map] at hj
      rw [List.getElem?_map, List.getElem?_eq_getElem hj] at ez
      cases ez
      walk_at "rd"
      have h := hN2 _ (Same.refl _)
      rw [List.getD_eq_getElem?_getD, List.getElem?_eq_getElem hj] at h
      exact ⟨_, rfl, h⟩
    intro H1 s1 h1
    have eall : (List.range (outs.map V.int).length).map (fun j => V.bl (decide (0 ≤ outs.getD j 0) && decide (outs.getD j 0 ≤ 9))) = (List.replicate outs.length true).map V.bl := by
      refine List.ext_getElem (by simp) fun j p q => ?_
      have hj : j < outs.length := by simpa using p
      simp only [List.getElem_map, List.getElem_range, List.getElem_replicate]
      have := ok0.rng outs[j] (List.getElem_mem hj)
      rw [List.getD_eq_getElem?_getD, List.getElem?_eq_getElem hj, Option.getD_some, decide_eq_true this.1, decide_eq_true this.2]
      rfl
    rw [eall] at h1
    refine ⟨_, SqL.of h1, ?_⟩
    have eid : (List.replicate outs.length true).all id = true := by simp
    rw [eid, if_neg (by decide)]
    refine ⟨_, .inl (SqL.of (s1 _ _ ht)), _, .inl (SqL.of (s1 _ _ ho)), ?_⟩
    rw [hT0, hout, if_pos rfl]
    refine ⟨t, rs, T, 2, rfl, s1 _ _ ht, hr1.same s1, by omega, fun r hr2 => by rw [hrw r hr2]; omega, fun H2 s2 => ?_⟩
    rw [ok0.good]
    refine ⟨true, rfl, ?_⟩
    rw [if_neg (by decide)]
    have s12 := s1.trans s2
    refine ⟨_, .inl (SqL.of (s12 _ _ ho)), ?_⟩
    rw [hout, if_neg (by omega)]
    refine cut_by (fun σ' H' => (∃ o1 o2, σ' = [some (V.ref m), some (.ref o), some (.ref t), o1, o2, none]) ∧ Same H2 H') (fun N hN => ?_) ?_
    · walk_at "rd"
      refine ⟨_, SqL.of (s12 _ _ ht), for_enumN (xs := rs.map V.ref) (fun i σ H3 => (∃ o1 o2, σ = [some (V.ref m), some (.ref o), some (.ref t), o1, o2, none]) ∧ Same H2 H3) ?_ ?_ ?_ ?_⟩
      · exact ⟨⟨_, _, rfl⟩, Same.refl _⟩
      · rintro i σ H3 _ ⟨_, s3⟩
        exact SqL.of (s3 _ _ (s12 _ _ ht))
      · rintro i x Tp σ H3 N2 hx ⟨⟨o1, o2, rfl⟩, s3⟩ hTp hN2
        rw [List.getElem?_map] at hx
        obtain ⟨ra, hra, rfl⟩ := Option.map_eq_some_iff.mp hx
        have hi : i < T.length := by rw [← hr1.len]; exact (List.getElem?_eq_some_iff.mp hra).1
        obtain ⟨r, er, e0, lt0⟩ := goodT_at ok0.good hi (a := 0) (by decide)
        have s4 : Same H3 (upd H3 Tp (.tup [V.int (i : Nat), V.ref ra])) := same_upd hTp
        have sA := (s12.trans s3).trans s4
        have hrow := sA _ _ (hr1.at_ i ra r hra er)
        have hoA := sA _ _ ho
        have hset := ok0.set i hi
        have e1 := ok0.at_ hi
        walk_at "rd"
        refine ⟨_, SqT.of upd_same, rfl, _, _, rfl, _, _, rfl, rfl, _, _, rfl, SqL.of hoA, .int (outs.getD i 0), at_map e1, ?_⟩
        refine ⟨ra, rfl, _, SqL.of hrow, _, at_map e0, _, _, rfl, SqL.of hoA, .int (outs.getD i 0), at_map (hset ▸ e1), rfl, ?_⟩
        rw [if_pos rfl]
        exact hN2 _ _ ⟨⟨_, _, rfl⟩, s3.trans s4⟩
      · rintro σ H3 ⟨⟨o1, o2, rfl⟩, s3⟩
        exact hN _ _ ⟨⟨_, _, rfl⟩, s3⟩
    · rintro σ' H3 ⟨⟨o1, o2, rfl⟩, s3⟩
      walk_at "rd"
      have s13 := s12.trans s3
      have ho3 := s13 _ _ ho
      have ht3 := s13 _ _ ht
      have hm3 := s13 _ _ hm
      have nom : o ≠ m := ne_of ho hm (by intro z; cases z)
      have ntm : t ≠ m := ne_of ht hm (by intro z; cases z)
      refine ⟨_, .inl (SqL.of ho3), fun A hA => ?_⟩
      have sA : Same H3 (upd H3 A (.lst (outs.map V.int))) := same_upd hA
      refine flds_of c_T t_outputs (sA _ _ hm3) (by decide) ?_
      have nAm : A ≠ m := (ne_of_none hm3 hA).symm
      obtain ⟨H4, hH4⟩ : ∃ H4, H4 = upd (upd H3 A (.lst (outs.map V.int))) m (.ins CT dx (putF "outputs" (.ref A) [])) := ⟨_, rfl⟩
      have e4 : upd (upd H3 A (.lst (outs.map V.int))) m (.ins CT dx (putF (Str.ofString "outputs") (.ref A) [])) = H4 := hH4.symm
      rw [e4]
      have hm4 : H4 m = some (.ins CT dx (putF "outputs" (.ref A) [])) := by rw [hH4, upd_same]
      have b4 : But m H3 H4 := hH4 ▸ (But.of sA).trans But.upd
      have hA4 : H4 A = some (.lst (outs.map V.int)) := by rw [hH4, upd_ne nAm, upd_same]
      have ht4 := b4 _ _ ntm ht3
      have nrm : ∀ r ∈ rs, r ≠ m := fun r hr2 e => by
        obtain ⟨r', _, e2⟩ := hr1.some hr2
        rw [e, hm] at e2
        cases e2
      have hr4 := (hr1.same s13).but b4 nrm
      walk_at "rd"
      refine ⟨⟨_, SqL.of ht4⟩, fun D2 hD2 => ?_⟩
      refine lc_copy ht4 hr4 (by omega) hD2 (fun a r H N ha hN => ?_) ?_
      · walk_at "rd"
        exact ⟨_, .inl (SqL.of ha), fun L hL => hN L hL⟩
      intro H5 qs s5 h5 q5 n5
      have hm5 := s5 _ _ hm4
      refine flds_of c_T t_table hm5 (by rw [show (putF "outputs" (V.ref A) []).length = 1 from rfl]; decide) ?_
      have nDm : D2 ≠ m := (ne_of_none hm4 hD2).symm
      have nqm : ∀ q ∈ qs, q ≠ m := fun q hq => (ne_of_none hm4 (n5 q hq).1).symm
      have b5 : But m H5 (upd H5 m (.ins CT dx (tflds A D2))) := But.upd
      have bAll : But m H (upd H5 m (.ins CT dx (tflds A D2))) := (((But.of s13).trans b4).trans (But.of s5)).trans b5
      have free : ∀ q, q ≠ m → H4 q = none → H q = none := fun q nq hq => s13.free (But.none b4 nq hq)
      refine ok (m :: A :: D2 :: qs) _ bAll ⟨dx, A, D2, qs, rfl, upd_same, b5 _ _ nAm (s5 _ _ hA4), b5 _ _ nDm h5, q5.but b5 nqm⟩ fun a ha => ?_
      simp only [List.mem_cons] at ha
      rcases ha with rfl | rfl | rfl | z
      · exact .inl rfl
      · exact .inr (s13.free hA)
      · exact .inr (free _ nDm hD2)
      · exact .inr (free _ (nqm a z) (n5 a z).1)

end
end
section
local macro_rules | `(tactic| walk_at "rd") => `(tactic| simp only [tSeq, tNext, tAsg, gName, tRet, tRetN, tIfS, tDrop, tVar, tC, tOp, tUn, tTest, tCB, tCons, tNil, tB, tAnd, tOr, tNot, tAndV, tOrV, tNotV, tIf, tCall, tTup, tLst, tSl, tPart, tNoPart, tM0, tM1, tBM, tChain, tBreak, tCont, tNever, tAug, ipI, tPar, tyV_str,
  tFor_eq, tLc_eq, tMkO, tYes, wipe, ofStr_S, S_cat, one_S, len_S, S_iff, S_cps, Int.zero_add, gNil, gCons, gTup, gSub, iRng1, iRng2, iList, iTup, iStr, rI0, rI, rU, rEq, rNe, rIxL, rIxT, rIxS, Dw.rLen, rListOf, rTupOf, rNotB, rIsB, rMulS, rIn, rCat, rAppend, rCatA, rEqD, rNeD, C8.rSlX, tDGet, Int.toNat_natCast, WE, iEnum, iRev, rSum, tFd, tFs, tMake, tMakeS, tMeth, Dw.tMethS, tCallS, rSlL, rSlA, tDGet2, tDIn, tDNotIn, rSetD, rAll, rKIn, tBM0, rPop, rExtend, tAddT, rAddT, rSetT0, Dw.rSetL, rSortT, StX.tStar, tDNewK, tDisp, tPairs, L2.start, cxOf_K, cxOf_w, cxOf_prog,
  List.map_cons, List.map_nil, List.length_cons, List.length_nil, List.replicate, List.cons_append, List.nil_append, Nat.reduceAdd, Nat.reduceSub, Nat.zero_add, List.append_nil,
  List.set_cons_zero, List.set_cons_succ, List.getElem?_cons_zero, List.getElem?_cons_succ, Option.some.injEq, V.int.injEq, V.bl.injEq, V.ref.injEq, V.str.injEq, V.ty.injEq, List.cons.injEq, and_true, true_and, reduceCtorEq, false_and, exists_false, or_false, false_or, exists_eq_left, exists_eq_left', exists_eq', sw_S, an_S, exists_and_left, exists_const, exists_eq, decide_eq_true_eq, Bool.false_eq_true, if_true, if_false, Bool.not_eq_true', decide_eq_false_iff_not, Bool.not_true, Bool.not_false, ite_not, scal, and_false])
section
variable {P : Program} {w : World} {K : PySem.W.Frag} {mg : Str → Option Value} {base : Heap}
theorem noS {s t : List Nat} (h : s ≠ t) : ¬ V.str (S s) = V.str (S t) := fun e => h (S_inj (V.str.inj e))
theorem np_bin : ∀ k : Fin 4, kBin k ≠ cs "not" ∧ kBin k ∈ [cs "and", cs "or", cs "imp", cs "iff"] := by decide +kernel
theorem np_qf : ∀ k : Bool, kQf k ≠ cs "not" ∧ kQf k ∉ [cs "and", cs "or", cs "imp", cs "iff"] ∧ kQf k ∈ [cs "some", cs "all"] := by decide +kernel
theorem np_cmp : ∀ k : Bool, kCmp k ≠ cs "not" ∧ kCmp k ∉ [cs "and", cs "or", cs "imp", cs "iff"] ∧ kCmp k ∉ [cs "some", cs "all"] := by decide +kernel
theorem np_oth : ∀ s ∈ [cs "pow", cs "word", cs "call"], s ≠ cs "not" ∧ s ∉ [cs "and", cs "or", cs "imp", cs "iff"] ∧ s ∉ [cs "some", cs "all"] := by decide +kernel
theorem leaf_hd {H : Hp} {t : Addr} {f : Fm} (h : FmAt H t f) (s : leafF f) : ∃ l xs, H t = some (.tup (.str (S l) :: xs)) ∧ l ≠ cs "not" ∧ l ∉ [cs "and", cs "or", cs "imp", cs "iff"] ∧ l ∉ [cs "some", cs "all"] := by
  cases f with
  | not a => exact s.elim
  | bin k a b => exact s.elim
  | qf k z a => exact s.elim
  | pow z => exact ⟨_, _, h, np_oth _ (by simp)⟩
  | word w z o => exact ⟨_, _, h, np_oth _ (by simp)⟩
  | cmp k ps c => obtain ⟨u, h1, _⟩ := h; exact ⟨_, _, h1, np_cmp k⟩
  | call f zs => obtain ⟨u, h1, _⟩ := h; exact ⟨_, _, h1, np_oth _ (by simp)⟩
theorem kb_qf : ∀ k : Fin 4, kBin k ≠ cs "some" ∧ kBin k ≠ cs "all" := by decide +kernel
def sp_lparts : Sp := fun vs H Q _ => ∃ (t : Addr) (f : Fm), vs = [.ref t] ∧ FmAt H t f ∧ ∀ (l : Addr) (as : List Addr) H', Same H H' → H l = none → H' l = some (.lst (as.map V.ref)) → FmsAt H' as (subs f) → Q (.ref l) H'
theorem c__law_parts {f : Addr} {fd : FuncData} (D : C8.Def K mg "_law_parts" s__law_parts f fd) (b : Binds K fd ["formula"] [])  : C8.Cal P w K mg base 1 "_law_parts" sp_lparts [] := by
  refine C8.cal0 D b .nil sc__law_parts (fun vs H Q E h => ?_) (fun cdv A outer s H vs Q E hr h => ?_)
  · obtain ⟨_, _, rfl, _⟩ := h
    rfl
  · obtain ⟨t, f1, rfl, hf, ok⟩ := h
    refine ⟨_, (pss_cons (ps_if (pt_cmpR (op_eq) (pe_ix (ixT K) (pv 0) pe_int (fun _ _ => rfl)) pe_str (nomark _)) (pss_one (ps_ret (pe_lst (pa_cons (pe_ix (ixT K) (pv 0) pe_int (fun _ _ => rfl)) pa_nil)))) pss_nil) (pss_cons (ps_if (PW.pt (pw_or (pt_cmpR (op_eq) (pe_ix (ixT K) (pv 0) pe_int (fun _ _ => rfl)) pe_str (nomark _)) (pw_or1 (pt_cmpR (op_eq) (pe_ix (ixT K) (pv 0) pe_int (fun _ _ => rfl)) pe_str (nomark _))))) (pss_one (ps_ret (pe_lst (pa_cons (pe_ix (ixT K) (pv 0) pe_int (fun _ _ => rfl)) pa_nil)))) pss_nil) (pss_cons (ps_if (pt_cmpR (inQ K) (pe_ix (ixT K) (pv 0) pe_int (fun _ _ => rfl)) (pe_lst (pa_cons pe_str (pa_cons pe_str (pa_cons pe_str (pa_cons pe_str pa_nil))))) (by with_unfolding_all rfl)) (pss_one (ps_ret (pe_lst (pa_cons (pe_ix (ixT K) (pv 0) pe_int (fun _ _ => rfl)) (pa_cons (pe_ix (ixT K) (pv 0) pe_int (fun _ _ => rfl)) pa_nil))))) pss_nil) (pss_one (ps_ret (pe_lst pa_nil)))))), ?_⟩
    have s4 : ∀ (l : List Nat), inV (V.str (S l)) [V.str (S (cs "and")), V.str (S (cs "or")), V.str (S (cs "imp")), V.str (S (cs "iff"))] = decide (l ∈ [cs "and", cs "or", cs "imp", cs "iff"]) := fun l => inV_S l [cs "and", cs "or", cs "imp", cs "iff"]
    by_cases hlf : leafF f1
    · obtain ⟨l, xs, hx, n1, n2, n3⟩ := leaf_hd hf hlf
      have n3' : l ≠ cs "some" ∧ l ≠ cs "all" := by simpa using n3
      walk_at "rd"
      refine ⟨_, SqT.of hx, _, atI_nat (j := 0) rfl, rfl, ?_⟩
      rw [if_neg (noS n1)]
      refine ⟨_, SqT.of hx, _, atI_nat (j := 0) rfl, rfl, ?_⟩
      rw [if_neg (noS n3'.1)]
      refine ⟨_, SqT.of hx, _, atI_nat (j := 0) rfl, rfl, ?_⟩
      rw [if_neg (noS n3'.2)]
      refine ⟨_, SqT.of hx, _, atI_nat (j := 0) rfl, by decide, fun p hp => ⟨_, .inl (SqL.of upd_same), rfl, rfl, ?_⟩⟩
      rw [s4, if_neg (by simpa using n2)]
      refine ⟨Nat.zero_le _, fun l2 hl2 => ok l2 [] _ ((same_upd hp).trans (same_upd hl2)) ((same_upd hp).free hl2) upd_same ?_⟩
      have : subs f1 = [] := by cases f1 <;> first | rfl | exact hlf.elim
      rw [this]
      trivial
    cases f1 with
    | not a =>
      obtain ⟨u, h1, h2⟩ := hf
      walk_at "rd"
      refine ⟨_, SqT.of h1, _, atI_nat (j := 0) rfl, rfl, ?_⟩
      rw [if_pos rfl]
      exact ⟨_, SqT.of h1, _, atI_nat (j := 1) rfl, by decide, fun l hl => ok l [u] _ (same_upd hl) hl upd_same ⟨h2.tups (Tups.same (same_upd hl)), trivial⟩⟩
    | qf k z a =>
      obtain ⟨u, h1, h2⟩ := hf
      walk_at "rd"
      refine ⟨_, SqT.of h1, _, atI_nat (j := 0) rfl, rfl, ?_⟩
      rw [if_neg (noS (np_qf k).1)]
      refine ⟨_, SqT.of h1, _, atI_nat (j := 0) rfl, rfl, ?_⟩
      have fin : ∃ x, SqT K H t x ∧ ∃ x_3, atI x 2 = some x_3 ∧ 1 ≤ sizeLine ∧ ∀ (p : Addr), H p = none → Q (V.ref p) (upd H p (HO.lst [x_3])) :=
        ⟨_, SqT.of h1, _, atI_nat (j := 2) rfl, by decide, fun l hl => ok l [u] _ (same_upd hl) hl upd_same ⟨h2.tups (Tups.same (same_upd hl)), trivial⟩⟩
      cases k with
      | true =>
        rw [if_pos (show V.str (S (kQf true)) = V.str (S (cs "some")) from rfl)]
        exact fin
      | false =>
        rw [if_neg (noS (by decide))]
        refine ⟨_, SqT.of h1, _, atI_nat (j := 0) rfl, rfl, ?_⟩
        rw [if_pos (show V.str (S (kQf false)) = V.str (S (cs "all")) from rfl)]
        exact fin
    | bin k a b =>
      obtain ⟨u, v, h1, h2, h3⟩ := hf
      walk_at "rd"
      refine ⟨_, SqT.of h1, _, atI_nat (j := 0) rfl, rfl, ?_⟩
      rw [if_neg (noS (np_bin k).1)]
      refine ⟨_, SqT.of h1, _, atI_nat (j := 0) rfl, rfl, ?_⟩
      rw [if_neg (noS (kb_qf k).1)]
      refine ⟨_, SqT.of h1, _, atI_nat (j := 0) rfl, rfl, ?_⟩
      rw [if_neg (noS (kb_qf k).2)]
      refine ⟨_, SqT.of h1, _, atI_nat (j := 0) rfl, by decide, fun p hp => ⟨_, .inl (SqL.of upd_same), rfl, rfl, ?_⟩⟩
      have sp := same_upd (o := HO.lst [V.str (S (cs "and")), V.str (S (cs "or")), V.str (S (cs "imp")), V.str (S (cs "iff"))]) hp
      rw [s4, if_pos (decide_eq_true (np_bin k).2)]
      exact ⟨_, SqT.of (sp _ _ h1), _, atI_nat (j := 1) rfl, _, SqT.of (sp _ _ h1), _, atI_nat (j := 2) rfl, by decide, fun l hl => ok l [u, v] _ (sp.trans (same_upd hl)) (sp.free hl) upd_same ⟨h2.tups (Tups.same (sp.trans (same_upd hl))), h3.tups (Tups.same (sp.trans (same_upd hl))), trivial⟩⟩
    | pow z => exact (hlf trivial).elim
    | word w z o => exact (hlf trivial).elim
    | cmp k ps c => exact (hlf trivial).elim
    | call f zs => exact (hlf trivial).elim
def sp_lown : Sp := fun vs H Q _ => ∃ (t : Addr) (f : Fm), vs = [.ref t] ∧ FmAt H t f ∧ f.Good ∧ ∀ (l : Addr) H', Same H H' → H l = none → H' l = some (.lst ((ownL f).map V.str)) → Q (.ref l) H'
theorem hdw : cs "eq" ≠ cs "le" ∧ (cs "pow" ≠ cs "eq" ∧ cs "pow" ≠ cs "le") ∧ (cs "word" ≠ cs "eq" ∧ cs "word" ≠ cs "le" ∧ cs "word" ≠ cs "pow") ∧ (cs "call" ≠ cs "eq" ∧ cs "call" ≠ cs "le" ∧ cs "call" ≠ cs "pow" ∧ cs "call" ≠ cs "word") ∧ (cs "not" ≠ cs "eq" ∧ cs "not" ≠ cs "le" ∧ cs "not" ≠ cs "pow" ∧ cs "not" ≠ cs "word" ∧ cs "not" ≠ cs "call") := by decide +kernel
theorem hdq : ∀ k : Bool, kQf k ≠ cs "eq" ∧ kQf k ≠ cs "le" ∧ kQf k ≠ cs "pow" ∧ kQf k ≠ cs "word" ∧ kQf k ≠ cs "call" := by decide +kernel
theorem hdb : ∀ k : Fin 4, kBin k ≠ cs "eq" ∧ kBin k ≠ cs "le" ∧ kBin k ≠ cs "pow" ∧ kBin k ≠ cs "word" ∧ kBin k ≠ cs "call" := by decide +kernel
theorem c__law_own {f : Addr} {fd : FuncData} (D : C8.Def K mg "_law_own" s__law_own f fd) (b : Binds K fd ["formula"] []) (z_list : mg "list" = none) : C8.Cal P w K mg base 1 "_law_own" sp_lown [] := by
  refine C8.cal0 D b .nil sc__law_own (fun vs H Q E h => ?_) (fun cdv A outer s H vs Q E hr h => ?_)
  · obtain ⟨_, _, rfl, _⟩ := h
    rfl
  · obtain ⟨t, f1, rfl, hf, hgd, ok⟩ := h
    refine ⟨_, (pss_cons (ps_if (PW.pt (pw_or (pt_cmpR (op_eq) (pe_ix (ixT K) (pv 0) pe_int (fun _ _ => rfl)) pe_str (nomark _)) (pw_or1 (pt_cmpR (op_eq) (pe_ix (ixT K) (pv 0) pe_int (fun _ _ => rfl)) pe_str (nomark _))))) (pss_one (ps_ret (pe_lc (own := [("pair", 1)]) (g := (gName 1)) (tt := tYes) rfl sc__law_own.nd (piT K (pe_ix (ixT K) (pe_ix (ixT K) (pv 0) pe_int (fun _ _ => rfl)) pe_int (fun _ _ => rfl))) (blkOk_by (N := N__law_own) (sc := C8.fnScope s__law_own) (by decide +kernel)) (fun _ _ _ _ _ => (pg_name (i := 1) sc__law_own.nd rfl (by first | exact Or.inl rfl | exact Or.inr rfl))) (fun _ _ _ _ _ => pts_nil) (fun _ _ _ _ _ => (pe_ix (ixT K) (pv 1) pe_int (fun _ _ => rfl)))))) pss_nil) (pss_cons (ps_if (pt_cmpR (op_eq) (pe_ix (ixT K) (pv 0) pe_int (fun _ _ => rfl)) pe_str (nomark _)) (pss_one (ps_ret (pe_lst (pa_cons (pe_ix (ixT K) (pv 0) pe_int (fun _ _ => rfl)) pa_nil)))) pss_nil) (pss_cons (ps_if (pt_cmpR (op_eq) (pe_ix (ixT K) (pv 0) pe_int (fun _ _ => rfl)) pe_str (nomark _)) (pss_one (ps_ret (pe_lst (pa_cons (pe_ix (ixT K) (pv 0) pe_int (fun _ _ => rfl)) pa_nil)))) pss_nil) (pss_cons (ps_if (pt_cmpR (op_eq) (pe_ix (ixT K) (pv 0) pe_int (fun _ _ => rfl)) pe_str (nomark _)) (pss_one (ps_ret (pe_callTy (listOf K) (by rfl) z_list (by decide +kernel) (pa_cons (pe_ix (ixT K) (pv 0) pe_int (fun _ _ => rfl)) pa_nil)))) pss_nil) (pss_one (ps_ret (pe_lst pa_nil))))))), ?_⟩
    obtain ⟨xs, hx⟩ := fm_hd hf
    have emp : ∀ {k : List Nat}, hdF f1 = k → k ≠ cs "eq" → k ≠ cs "le" → k ≠ cs "pow" → k ≠ cs "word" → k ≠ cs "call" → ownL f1 = [] → True := fun _ _ _ _ _ _ _ => trivial
    by_cases he : hdF f1 ≠ cs "eq" ∧ hdF f1 ≠ cs "le" ∧ hdF f1 ≠ cs "pow" ∧ hdF f1 ≠ cs "word" ∧ hdF f1 ≠ cs "call"
    · have ho : ownL f1 = [] := by
        cases f1 with
        | pow z => exact absurd rfl he.2.2.1
        | word x z o => exact absurd rfl he.2.2.2.1
        | call g zs => exact absurd rfl he.2.2.2.2
        | cmp k ps c =>
          cases k with
          | true => exact absurd rfl he.1
          | false => exact absurd rfl he.2.1
        | _ => rfl
      walk_at "rd"
      refine ⟨_, SqT.of hx, _, atI_nat (j := 0) rfl, rfl, ?_⟩
      rw [if_neg (noS he.1)]
      refine ⟨_, SqT.of hx, _, atI_nat (j := 0) rfl, rfl, ?_⟩
      rw [if_neg (noS he.2.1)]
      refine ⟨_, SqT.of hx, _, atI_nat (j := 0) rfl, rfl, ?_⟩
      rw [if_neg (noS he.2.2.1)]
      refine ⟨_, SqT.of hx, _, atI_nat (j := 0) rfl, rfl, ?_⟩
      rw [if_neg (noS he.2.2.2.1)]
      refine ⟨_, SqT.of hx, _, atI_nat (j := 0) rfl, rfl, ?_⟩
      rw [if_neg (noS he.2.2.2.2)]
      exact ⟨Nat.zero_le _, fun l hl => ok l _ (same_upd hl) hl (by rw [ho]; exact upd_same)⟩
    cases f1 with
    | not a => exact absurd hdw.2.2.2.2 he
    | qf k z a => exact absurd (hdq k) he
    | bin k a c => exact absurd (hdb k) he
    | pow z =>
      walk_at "rd"
      refine ⟨_, SqT.of hf, _, atI_nat (j := 0) rfl, rfl, ?_⟩
      rw [if_neg (noS hdw.2.1.1)]
      refine ⟨_, SqT.of hf, _, atI_nat (j := 0) rfl, rfl, ?_⟩
      rw [if_neg (noS hdw.2.1.2)]
      refine ⟨_, SqT.of hf, _, atI_nat (j := 0) rfl, rfl, ?_⟩
      rw [if_pos rfl]
      exact ⟨_, SqT.of hf, _, atI_nat (j := 1) rfl, by decide, fun l hl => ok l _ (same_upd hl) hl upd_same⟩
    | word x z o =>
      walk_at "rd"
      refine ⟨_, SqT.of hf, _, atI_nat (j := 0) rfl, rfl, ?_⟩
      rw [if_neg (noS hdw.2.2.1.1)]
      refine ⟨_, SqT.of hf, _, atI_nat (j := 0) rfl, rfl, ?_⟩
      rw [if_neg (noS hdw.2.2.1.2.1)]
      refine ⟨_, SqT.of hf, _, atI_nat (j := 0) rfl, rfl, ?_⟩
      rw [if_neg (noS hdw.2.2.1.2.2)]
      refine ⟨_, SqT.of hf, _, atI_nat (j := 0) rfl, rfl, ?_⟩
      rw [if_pos rfl]
      exact ⟨_, SqT.of hf, _, atI_nat (j := 2) rfl, by decide, fun l hl => ok l _ (same_upd hl) hl upd_same⟩
    | call g zs =>
      obtain ⟨u, h1, h2⟩ := hf
      walk_at "rd"
      refine ⟨_, SqT.of h1, _, atI_nat (j := 0) rfl, rfl, ?_⟩
      rw [if_neg (noS hdw.2.2.2.1.1)]
      refine ⟨_, SqT.of h1, _, atI_nat (j := 0) rfl, rfl, ?_⟩
      rw [if_neg (noS hdw.2.2.2.1.2.1)]
      refine ⟨_, SqT.of h1, _, atI_nat (j := 0) rfl, rfl, ?_⟩
      rw [if_neg (noS hdw.2.2.2.1.2.2.1)]
      refine ⟨_, SqT.of h1, _, atI_nat (j := 0) rfl, rfl, ?_⟩
      rw [if_neg (noS hdw.2.2.2.1.2.2.2)]
      refine ⟨_, SqT.of h1, _, atI_nat (j := 0) rfl, rfl, ?_⟩
      rw [if_pos rfl]
      refine ⟨_, SqT.of h1, _, atI_nat (j := 2) rfl, u, rfl, _, .inr (SqT.of h2), fun l hl => ok l _ (same_upd hl) hl ?_⟩
      rw [upd_same]
      show some (HO.lst (zs.map vS)) = some (HO.lst ((zs.map S).map V.str))
      rw [List.map_map]
      rfl
    | cmp k ps c =>
      obtain ⟨u, h1, qq, as, h2, h3, h4⟩ := hf
      have hpl := h4.len
      have hps : ps.length ≤ 30 := hgd.2.2.2.2.2
      have main : ∀ G, H G = none → LcJ (Itt K qq) (gName 1) tYes (tOp (rIxT K) (tVar 1) (tC (V.int 0))) [1] G [some (V.ref t), none] H fun H2 => Q (V.ref G) H2 := fun G hG => by
        refine lc_tupN (xs := as.map V.ref) (fun i H6 => H6 G = some (.lst (((keys ps).take i).map V.str)) ∧ Same H H6) ?_ ?_ ?_ ?_
        · exact ⟨upd_same, same_upd hG⟩
        · rintro i H6 _ ⟨_, s6⟩
          exact SqT.of (s6 _ _ h3)
        · rintro i x H6 N hx ⟨h6, s6⟩ hN
          obtain ⟨a, p, ha, rfl, hpi, hpa⟩ := (h4.same s6).at hx
          walk_at "rd"
          refine ⟨_, SqT.of hpa, _, atI_nat (j := 0) rfl, _, h6, smallt (by rw [List.length_map, List.length_take]; simp only [keys, List.length_map]; omega), hN _ ⟨?_, Dw.Same.new s6 hG⟩⟩
          have hk : (keys ps)[i]? = some p.1 := by
            unfold keys
            rw [List.getElem?_map, hpi]
            rfl
          rw [upd_same, List.take_add_one, hk, List.map_append]
          rfl
        · rintro H6 ⟨h6, s6⟩
          have hkl : (keys ps).length = ps.length := by simp [keys]
          rw [List.length_map, hpl, ← hkl, List.take_length] at h6
          exact ok G H6 s6 hG h6
      walk_at "rd"
      refine ⟨_, SqT.of h1, _, atI_nat (j := 0) rfl, rfl, ?_⟩
      cases k with
      | true =>
        rw [if_pos (show V.str (S (kCmp true)) = V.str (S (cs "eq")) from rfl)]
        exact ⟨_, SqT.of h1, _, atI_nat (j := 1) rfl, u, rfl, _, SqT.of h2, _, atI_nat (j := 0) rfl, qq, rfl, ⟨_, SqT.of h3⟩, main⟩
      | false =>
        rw [if_neg (noS (show kCmp false ≠ cs "eq" by decide +kernel))]
        refine ⟨_, SqT.of h1, _, atI_nat (j := 0) rfl, rfl, ?_⟩
        rw [if_pos (show V.str (S (kCmp false)) = V.str (S (cs "le")) from rfl)]
        exact ⟨_, SqT.of h1, _, atI_nat (j := 1) rfl, u, rfl, _, SqT.of h2, _, atI_nat (j := 0) rfl, qq, rfl, ⟨_, SqT.of h3⟩, main⟩

end
end
section
local macro_rules | `(tactic| walk_at "rd") => `(tactic| simp only [tSeq, tNext, tAsg, gName, tRet, tRetN, tIfS, tDrop, tVar, tC, tOp, tUn, tTest, tCB, tCons, tNil, tB, tAnd, tOr, tNot, tAndV, tOrV, tNotV, tIf, tCall, tTup, tLst, tSl, tPart, tNoPart, tM0, tM1, tBM, tChain, tBreak, tCont, tNever, tAug, ipI, tPar, tyV_str,
  tFor_eq, tLc_eq, tMkO, tYes, wipe, ofStr_S, S_cat, one_S, len_S, S_iff, S_cps, Int.zero_add, gNil, gCons, gTup, gSub, iRng1, iRng2, iList, iTup, iStr, rI0, rI, rU, rEq, rNe, rIxL, rIxT, rIxS, Dw.rLen, rListOf, rTupOf, rNotB, rIsB, rMulS, rIn, rCat, rAppend, rCatA, rEqD, rNeD, C8.rSlX, tDGet, Int.toNat_natCast, WE, iEnum, iRev, rSum, tFd, tFs, tMake, tMakeS, tMeth, Dw.tMethS, tCallS, rSlL, rSlA, tDGet2, tDIn, tDNotIn, rSetD, rAll, rKIn, tBM0, rPop, rExtend, tAddT, rAddT, rSetT0, Dw.rSetL, rSortT, StX.tStar, tDNewK, tDisp, tPairs, L2.start, cxOf_K, cxOf_w, cxOf_prog,
  List.map_cons, List.map_nil, List.length_cons, List.length_nil, List.replicate, List.cons_append, List.nil_append, Nat.reduceAdd, Nat.reduceSub, Nat.zero_add, List.append_nil,
  List.set_cons_zero, List.set_cons_succ, List.getElem?_cons_zero, List.getElem?_cons_succ, Option.some.injEq, V.int.injEq, V.bl.injEq, V.ref.injEq, V.str.injEq, V.ty.injEq, List.cons.injEq, and_true, true_and, reduceCtorEq, false_and, exists_false, or_false, false_or, exists_eq_left, exists_eq_left', exists_eq', sw_S, an_S, exists_and_left, exists_const, exists_eq, decide_eq_true_eq, Bool.false_eq_true, if_true, if_false, Bool.not_eq_true', decide_eq_false_iff_not, Bool.not_true, Bool.not_false, ite_not, scal, and_false])
section
variable {P : Program} {w : World} {K : PySem.W.Frag} {mg : Str → Option Value} {base : Heap}
theorem subs_dep {f g : Fm} {n : Nat} (h : g ∈ subs f) (d : f.dep < n + 1) : g.dep < n := by
  cases f with
  | not a => rw [List.mem_singleton.mp h]; exact Nat.lt_of_succ_lt_succ d
  | qf k z a => rw [List.mem_singleton.mp h]; exact Nat.lt_of_succ_lt_succ d
  | bin k a b =>
    have d' : max a.dep b.dep + 1 < n + 1 := d
    rcases List.mem_cons.mp h with rfl | h
    · omega
    · rw [List.mem_singleton.mp h]; omega
  | pow z => cases h
  | word w z o => cases h
  | cmp k ps c => cases h
  | call f zs => cases h
/-- what the loops of _law_free find -/
def fv0 (f : Fm) : List Str := (subs f).foldl (fun acc g => addU acc (fvL g)) (addU [] (ownL f))
theorem fvL_eq (f : Fm) : fvL f = match f with
    | .qf _ z _ => (fv0 f).filter fun y => decide (y ≠ S z)
    | _ => fv0 f := by
  cases f <;> rfl
theorem allN_subs {f g : Fm} (h : g ∈ subs f) : ∀ z ∈ allN g, z ∈ allN f := by
  cases f with
  | not a => rw [List.mem_singleton.mp h]; exact fun z hz => hz
  | qf k y a => rw [List.mem_singleton.mp h]; exact fun z hz => List.mem_cons_of_mem _ hz
  | bin k a b =>
    rcases List.mem_cons.mp h with rfl | h
    · exact fun z hz => List.mem_append_left _ hz
    · rw [List.mem_singleton.mp h]; exact fun z hz => List.mem_append_right _ hz
  | _ => cases h
theorem kc_qf : ∀ k : Bool, kCmp k ≠ cs "some" ∧ kCmp k ≠ cs "all" := by decide +kernel
def SpFr : Nat → Sp := fun n vs H Q _ => ∃ (t : Addr) (f : Fm) (U : List Str), vs = [.ref t] ∧ FmAt H t f ∧ f.Good ∧ f.dep < n ∧ (∀ z ∈ allN f, z ∈ U) ∧ U.length ≤ 100 ∧ ∀ (l : Addr) H', Same H H' → H l = none → H' l = some (.lst ((fvL f).map V.str)) → Q (.ref l) H'
theorem ownL_few {f : Fm} (h : f.Good) : (ownL f).length ≤ 30 := by
  cases f with
  | cmp k ps c => simpa [ownL, keys] using h.2.2.2.2.2
  | call g zs => simpa [ownL] using h.2.2.1
  | _ => simp [ownL]
theorem ownL_all (f : Fm) : ∀ z ∈ ownL f, z ∈ allN f := by
  cases f <;> simp [ownL, allN]
theorem addU_sub {xs ys U : List Str} (h1 : ∀ z ∈ xs, z ∈ U) (h2 : ∀ z ∈ ys, z ∈ U) : ∀ z ∈ addU xs ys, z ∈ U := fun z hz => by
  rcases (addU_mem z ys xs).mp hz with h | h
  · exact h1 z h
  · exact h2 z h
theorem fold_take {f : Fm} {i : Nat} {g : Fm} (hg : (subs f)[i]? = some g) : ((subs f).take (i + 1)).foldl (fun acc g => addU acc (fvL g)) (addU [] (ownL f)) = addU (((subs f).take i).foldl (fun acc g => addU acc (fvL g)) (addU [] (ownL f))) (fvL g) := by
  rw [List.take_add_one, hg, List.foldl_append]
  rfl
theorem fold_sub {U : List Str} : ∀ (gs : List Fm) (acc : List Str), (∀ z ∈ acc, z ∈ U) → acc.Nodup → (∀ g ∈ gs, ∀ z ∈ allN g, z ∈ U) → (∀ z ∈ gs.foldl (fun acc g => addU acc (fvL g)) acc, z ∈ U) ∧ (gs.foldl (fun acc g => addU acc (fvL g)) acc).Nodup
  | [], acc, h1, h2, _ => ⟨h1, h2⟩
  | g :: gs, acc, h1, h2, h3 => fold_sub gs _ (addU_sub h1 fun z hz => h3 g List.mem_cons_self z (fvL_all g z hz)) (addU_nodup _ _ h2) fun g' hg => h3 g' (List.mem_cons_of_mem _ hg)
theorem c__law_free {f : Addr} {fd : FuncData} (D : C8.Def K mg "_law_free" s__law_free f fd) (b : Binds K fd ["formula"] []) (c__law_parts : C8.Cal P w K mg base 1 "_law_parts" sp_lparts []) (c__law_own : C8.Cal P w K mg base 1 "_law_own" sp_lown []) : ∀ n : Nat, C8.Cal P w K mg base (n + 2) "_law_free" (SpFr n) []
  | 0 => C8.cal0 (k := 1) D b .nil sc__law_free (fun vs H Q E h => by obtain ⟨_, _, _, rfl, _⟩ := h; rfl) (fun cdv A outer s H vs Q E hr h => by obtain ⟨_, _, _, _, _, _, h, _⟩ := h; exact absurd h (Nat.not_lt_zero _))
  | n + 1 => by
    have c__law_free := c__law_free D b c__law_parts c__law_own n
    refine C8.cal0 (k := n + 2) D b .nil sc__law_free (fun vs H Q E h => ?_) (fun cdv A outer s H vs Q E hr h => ?_)
    · obtain ⟨_, _, _, rfl, _⟩ := h
      rfl
    · obtain ⟨t, f1, U, rfl, hf, hgd, hd, hall, hU, ok⟩ := h
      refine ⟨_, (pss_cons (ps_set (i := 1) sc__law_free.nd rfl (by first | exact Or.inl rfl | exact Or.inr rfl) (pe_lst pa_nil)) (C8.pss_cut (ps_for PassesOwn.never rfl (piL K (C8.pe_c c__law_own hr (by omega) (by rfl) (pa_cons (pv 0) pa_nil))) (pg_name (i := 2) sc__law_free.nd rfl (by first | exact Or.inl rfl | exact Or.inr rfl)) (pss_one (ps_if (pt_cmpR (notInQ K) (pv 2) (pv 1) (by with_unfolding_all rfl)) (pss_one (ps_expr (pe_bm PySem.F.plainAttrs_list PySem.F.slot_list_append PySem.F.type_list_append mt_append (pv 1) (pa_cons (pv 2) pa_nil)))) pss_nil))) (C8.pss_cut (ps_for PassesOwn.never rfl (piL K (C8.pe_c c__law_parts hr (by omega) (by rfl) (pa_cons (pv 0) pa_nil))) (pg_name (i := 3) sc__law_free.nd rfl (by first | exact Or.inl rfl | exact Or.inr rfl)) (pss_one (ps_for PassesOwn.never rfl (piL K (C8.pe_c c__law_free hr (by omega) (by rfl) (pa_cons (pv 3) pa_nil))) (pg_name (i := 2) sc__law_free.nd rfl (by first | exact Or.inl rfl | exact Or.inr rfl)) (pss_one (ps_if (pt_cmpR (notInQ K) (pv 2) (pv 1) (by with_unfolding_all rfl)) (pss_one (ps_expr (pe_bm PySem.F.plainAttrs_list PySem.F.slot_list_append PySem.F.type_list_append mt_append (pv 1) (pa_cons (pv 2) pa_nil)))) pss_nil))))) (pss_cons (ps_if (PW.pt (pw_or (pt_cmpR (op_eq) (pe_ix (ixT K) (pv 0) pe_int (fun _ _ => rfl)) pe_str (nomark _)) (pw_or1 (pt_cmpR (op_eq) (pe_ix (ixT K) (pv 0) pe_int (fun _ _ => rfl)) pe_str (nomark _))))) (pss_one (ps_setLc (i := 1) (own := [("name", 2)]) (g := (gName 2)) (tt := _) rfl sc__law_free.nd rfl rfl (sw_true rfl rfl rfl (by decide +kernel)) (piL K (pv 1)) (blkOk_by (N := N__law_free) (sc := C8.fnScope s__law_free) (by decide +kernel)) (fun _ _ _ _ _ => (pg_name (i := 2) sc__law_free.nd rfl (by first | exact Or.inl rfl | exact Or.inr rfl))) (fun _ _ _ _ _ => (pts_one (pt_cmpR (op_ne) (pv 2) (pe_ix (ixT K) (pv 0) pe_int (fun _ _ => rfl)) (nomark _)))) (fun _ _ _ _ _ => (pv 2)))) pss_nil) (pss_one (ps_ret (pv 1))))))), ?_⟩
      walk_at "rd"
      refine ⟨Nat.zero_le _, fun Fd hFd => ?_⟩
      have s0 := same_upd (o := .lst []) hFd
      refine cut_by (fun σ' H' => (∃ u2, [some (V.ref t), some (V.ref Fd), u2, none] = σ') ∧ Same H H' ∧ H' Fd = some (.lst ((addU [] (ownL f1)).map V.str))) (fun N hN => ?_) ?_
      · walk_at "rd"
        refine ⟨t, f1, rfl, hf.tups (Tups.same s0), hgd, fun l H1 s1 hl h1 => ⟨l, rfl, ⟨_, SqL.of h1⟩, ?_⟩⟩
        have hlF : l ≠ Fd := (ne_of_none upd_same hl).symm
        refine for_listN (xs := (ownL f1).map V.str) (fun i σ H2 => (∃ u2, [some (V.ref t), some (V.ref Fd), u2, none] = σ) ∧ But Fd H1 H2 ∧ H2 Fd = some (.lst ((addU [] ((ownL f1).take i)).map V.str))) ?_ ?_ ?_ ?_
        · exact ⟨⟨_, rfl⟩, But.refl _ _, s1 _ _ upd_same⟩
        · rintro i σ H2 _ ⟨_, b2, _⟩
          exact SqL.of (b2 _ _ hlF h1)
        · rintro i x σ H2 N2 hx ⟨⟨u2, rfl⟩, b2, h2⟩ hN2
          rw [List.getElem?_map] at hx
          obtain ⟨z, hz, rfl⟩ := Option.map_eq_some_iff.mp hx
          walk_at "rd"
          refine ⟨_, .inl (SqL.of h2), rfl, flat_str _, ?_⟩
          rw [inV_str]
          have et : (ownL f1).take (i + 1) = (ownL f1).take i ++ [z] := by rw [List.take_add_one, hz]; rfl
          by_cases hm : z ∈ addU [] ((ownL f1).take i)
          · rw [if_neg (by simpa using hm)]
            refine hN2 _ _ ⟨⟨_, rfl⟩, b2, ?_⟩
            rw [et, addU_snoc, if_pos hm]
            exact h2
          · rw [if_pos (by simpa using hm)]
            have hlen := addU_len ((ownL f1).take i) []
            have hfew := ownL_few hgd
            rw [List.length_take] at hlen
            refine ⟨tyL h2, _, h2, smallt (by rw [List.length_map]; simp only [List.length_nil] at hlen; omega), hN2 _ _ ⟨⟨_, rfl⟩, b2.trans But.upd, ?_⟩⟩
            rw [et, addU_snoc, if_neg hm, upd_same, List.map_append]
            rfl
        · rintro σ H2 ⟨⟨u2, rfl⟩, b2, h2⟩
          rw [List.length_map, List.take_length] at h2
          exact hN _ _ ⟨⟨_, rfl⟩, Dw.Same.but2 (s0.trans s1) b2 hFd, h2⟩
      rintro σ' H1 ⟨⟨u2, rfl⟩, s1, h1F⟩
      have hbs : ∀ i, (∀ z ∈ ((subs f1).take i).foldl (fun acc g => addU acc (fvL g)) (addU [] (ownL f1)), z ∈ U) ∧ (((subs f1).take i).foldl (fun acc g => addU acc (fvL g)) (addU [] (ownL f1))).Nodup := fun i =>
        fold_sub _ _ (addU_sub (fun _ h => nomatch h) fun z hz => hall z (ownL_all f1 z hz)) (addU_nodup _ _ List.nodup_nil) fun g hg z hz => hall z (allN_subs (List.mem_of_mem_take hg) z hz)
      refine cut_by (fun σ' H' => (∃ u2 u3, [some (V.ref t), some (V.ref Fd), u2, u3] = σ') ∧ Same H H' ∧ H' Fd = some (.lst ((fv0 f1).map V.str))) (fun N hN => ?_) ?_
      · walk_at "rd"
        refine ⟨t, f1, rfl, hf.tups (Tups.same s1), fun l as H2 s2 hl h2 has => ⟨l, rfl, ⟨_, SqL.of h2⟩, ?_⟩⟩
        have hlF : l ≠ Fd := (ne_of_none h1F hl).symm
        refine for_listN (xs := as.map V.ref) (fun i σ H3 => (∃ u2 u3, [some (V.ref t), some (V.ref Fd), u2, u3] = σ) ∧ But Fd H2 H3 ∧ H3 Fd = some (.lst ((((subs f1).take i).foldl (fun acc g => addU acc (fvL g)) (addU [] (ownL f1))).map V.str))) ?_ ?_ ?_ ?_
        · exact ⟨⟨_, _, rfl⟩, But.refl _ _, s2 _ _ h1F⟩
        · rintro i σ H3 _ ⟨_, b3, _⟩
          exact SqL.of (b3 _ _ hlF h2)
        · rintro i x σ H3 N3 hx ⟨⟨u2, u3, rfl⟩, b3, h3⟩ hN3
          rw [List.getElem?_map] at hx
          obtain ⟨a, ha, rfl⟩ := Option.map_eq_some_iff.mp hx
          obtain ⟨g, hg, hga⟩ := has.at_ ha
          have hgs := List.mem_of_getElem? hg
          have hga3 : FmAt H3 a g := hga.tups (Tups.but b3 (s2 _ _ h1F) (fun _ z => by cases z))
          obtain ⟨A0, hA0⟩ : ∃ A0, A0 = ((subs f1).take i).foldl (fun acc g => addU acc (fvL g)) (addU [] (ownL f1)) := ⟨_, rfl⟩
          obtain ⟨hsub0, hnd0⟩ := hbs i
          have efold := fold_take hg
          rw [← hA0] at h3 hsub0 hnd0 efold
          walk_at "rd"
          refine ⟨a, g, U, rfl, hga3, subs_good hgd hgs, subs_dep hgs hd, fun z hz => hall z (allN_subs hgs z hz), hU, fun l2 H4 s4 hl2 h4 => ⟨l2, rfl, ⟨_, SqL.of h4⟩, ?_⟩⟩
          have hl2F : l2 ≠ Fd := (ne_of_none h3 hl2).symm
          refine for_listN (xs := (fvL g).map V.str) (fun j σ H5 => (∃ u2, [some (V.ref t), some (V.ref Fd), u2, some (V.ref a)] = σ) ∧ But Fd H4 H5 ∧ H5 Fd = some (.lst ((addU A0 ((fvL g).take j)).map V.str))) ?_ ?_ ?_ ?_
          · exact ⟨⟨_, rfl⟩, But.refl _ _, s4 _ _ h3⟩
          · rintro j σ H5 _ ⟨_, b5, _⟩
            exact SqL.of (b5 _ _ hl2F h4)
          · rintro j x σ H5 N5 hx ⟨⟨u2, rfl⟩, b5, h5⟩ hN5
            rw [List.getElem?_map] at hx
            obtain ⟨z, hz, rfl⟩ := Option.map_eq_some_iff.mp hx
            walk_at "rd"
            refine ⟨_, .inl (SqL.of h5), rfl, flat_str _, ?_⟩
            rw [inV_str]
            have et : (fvL g).take (j + 1) = (fvL g).take j ++ [z] := by rw [List.take_add_one, hz]; rfl
            by_cases hm : z ∈ addU A0 ((fvL g).take j)
            · rw [if_neg (by simpa using hm)]
              refine hN5 _ _ ⟨⟨_, rfl⟩, b5, ?_⟩
              rw [et, addU_snoc, if_pos hm]
              exact h5
            · rw [if_pos (by simpa using hm)]
              have hlen := nodup_leS (addU_nodup ((fvL g).take j) _ hnd0) (addU_sub hsub0 fun y hy => hall y (allN_subs hgs y (fvL_all g y (List.mem_of_mem_take hy))))
              refine ⟨tyL h5, _, h5, smallt (by rw [List.length_map]; omega), hN5 _ _ ⟨⟨_, rfl⟩, b5.trans But.upd, ?_⟩⟩
              rw [et, addU_snoc, if_neg hm, upd_same, List.map_append]
              rfl
          · rintro σ H5 ⟨⟨u2, rfl⟩, b5, h5⟩
            rw [List.length_map, List.take_length, ← efold] at h5
            exact hN3 _ _ ⟨⟨_, _, rfl⟩, (b3.trans (But.of s4)).trans b5, h5⟩
        · rintro σ H3 ⟨⟨u2, u3, rfl⟩, b3, h3⟩
          rw [List.length_map, has.len, List.take_length] at h3
          exact hN _ _ ⟨⟨_, _, rfl⟩, Dw.Same.but2 (s1.trans s2) b3 hFd, h3⟩
      rintro σ' H2 ⟨⟨u2, u3, rfl⟩, s2, h2F⟩
      have hf2 := hf.tups (Tups.same s2)
      obtain ⟨xs, hx⟩ := fm_hd hf2
      have h0 := hbs (subs f1).length
      rw [List.take_length] at h0
      have h0' : (∀ z ∈ fv0 f1, z ∈ U) ∧ (fv0 f1).Nodup := h0
      have hlen0 := nodup_leS h0'.2 h0'.1
      walk_at "rd"
      refine ⟨_, SqT.of hx, _, atI_nat (j := 0) rfl, rfl, ?_⟩
      by_cases hq : ∃ k z a, f1 = .qf k z a
      · obtain ⟨k, z, a, rfl⟩ := hq
        obtain ⟨u, hq1, hq2⟩ := hf2
        have efv : fvL (.qf k z a) = (fv0 (.qf k z a)).filter fun y => decide (y ≠ S z) := fvL_eq _
        have main : ∀ D2, H2 D2 = none → LcJ (Itl K Fd) (gName 2) (tTest (tOp rNe (tVar 2) (tOp (rIxT K) (tVar 0) (tC (V.int 1))))) (tVar 2) [2] D2 [some (V.ref t), some (V.ref Fd), u2, u3] H2 fun H2 => Q (V.ref D2) H2 := fun D2 hD2 => by
          refine lc_listN (xs := (fv0 (.qf k z a)).map V.str) (fun i H3 => H3 D2 = some (.lst ((((fv0 (.qf k z a)).take i).filter fun y => decide (y ≠ S z)).map V.str)) ∧ Same H2 H3) ⟨upd_same, same_upd hD2⟩ (fun i H3 _ p => SqL.of (p.2 _ _ h2F)) (fun i x H3 N3 hx ⟨h3, s3⟩ hN3 => ?_) (fun H3 ⟨h3, s3⟩ => ?_)
          · rw [List.getElem?_map] at hx
            obtain ⟨y, hy, rfl⟩ := Option.map_eq_some_iff.mp hx
            have et := filter_take_add (fun y => decide (y ≠ S z)) _ _ _ hy
            walk_at "rd"
            refine ⟨_, SqT.of (s3 _ _ hq1), _, atI_nat (j := 1) rfl, rfl, ?_⟩
            by_cases hm : y = S z
            · rw [if_pos (by rw [hm])]
              refine hN3 _ ⟨?_, s3⟩
              rw [et, h3]
              simp [hm]
            · rw [if_neg (fun e => hm (V.str.inj e))]
              refine ⟨_, h3, smallt (by rw [List.length_map]; exact Nat.le_trans (List.length_filter_le _ _) (by rw [List.length_take]; omega)), hN3 _ ⟨?_, Dw.Same.new s3 hD2⟩⟩
              rw [et, upd_same]
              simp [hm]
          · rw [List.length_map, List.take_length, ← efv] at h3
            exact ok D2 H3 (s2.trans s3) (s2.free hD2) h3
        cases k with
        | true =>
          rw [show hdF (Fm.qf true z a) = cs "some" from rfl, if_pos rfl]
          exact ⟨⟨_, SqL.of h2F⟩, main⟩
        | false =>
          rw [show hdF (Fm.qf false z a) = cs "all" from rfl] at hx ⊢
          rw [if_neg (noS (show cs "all" ≠ cs "some" by decide +kernel))]
          refine ⟨_, SqT.of hx, _, atI_nat (j := 0) rfl, rfl, ?_⟩
          rw [if_pos rfl]
          exact ⟨⟨_, SqL.of h2F⟩, main⟩
      · have hh : hdF f1 ≠ cs "some" ∧ hdF f1 ≠ cs "all" ∧ fvL f1 = fv0 f1 := by
          cases f1 with
          | qf k z a => exact absurd ⟨k, z, a, rfl⟩ hq
          | bin k a c => exact ⟨(kb_qf k).1, (kb_qf k).2, fvL_eq _⟩
          | cmp k ps c => exact ⟨(kc_qf k).1, (kc_qf k).2, fvL_eq _⟩
          | not a => exact ⟨(by decide +kernel : cs "not" ≠ cs "some"), (by decide +kernel : cs "not" ≠ cs "all"), fvL_eq _⟩
          | pow z => exact ⟨(by decide +kernel : cs "pow" ≠ cs "some"), (by decide +kernel : cs "pow" ≠ cs "all"), fvL_eq _⟩
          | word x z o => exact ⟨(by decide +kernel : cs "word" ≠ cs "some"), (by decide +kernel : cs "word" ≠ cs "all"), fvL_eq _⟩
          | call g zs => exact ⟨(by decide +kernel : cs "call" ≠ cs "some"), (by decide +kernel : cs "call" ≠ cs "all"), fvL_eq _⟩
        rw [if_neg (noS hh.1)]
        refine ⟨_, SqT.of hx, _, atI_nat (j := 0) rfl, rfl, ?_⟩
        rw [if_neg (noS hh.2.1)]
        exact ok Fd _ s2 hFd (by rw [hh.2.2]; exact h2F)

end
end
section
local macro_rules | `(tactic| walk_at "rd") => `(tactic| simp only [tSeq, tNext, tAsg, gName, tRet, tRetN, tIfS, tDrop, tVar, tC, tOp, tUn, tTest, tCB, tCons, tNil, tB, tAnd, tOr, tNot, tAndV, tOrV, tNotV, tIf, tCall, tTup, tLst, tSl, tPart, tNoPart, tM0, tM1, tBM, tChain, tBreak, tCont, tNever, tAug, ipI, tPar, tyV_str,
  tFor_eq, tLc_eq, tMkO, tYes, wipe, ofStr_S, S_cat, one_S, len_S, S_iff, S_cps, Int.zero_add, gNil, gCons, gTup, gSub, iRng1, iRng2, iList, iTup, iStr, rI0, rI, rU, rEq, rNe, rIxL, rIxT, rIxS, Dw.rLen, rListOf, rTupOf, rNotB, rIsB, rMulS, rIn, rCat, rAppend, rCatA, rEqD, rNeD, C8.rSlX, tDGet, Int.toNat_natCast, WE, iEnum, iRev, rSum, tFd, tFs, tMake, tMakeS, tMeth, Dw.tMethS, tCallS, rSlL, rSlA, tDGet2, tDIn, tDNotIn, rSetD, rAll, rKIn, tBM0, rPop, rExtend, tAddT, rAddT, rSetT0, Dw.rSetL, rSortT, StX.tStar, tDNewK, tDisp, tPairs, L2.start, cxOf_K, cxOf_w, cxOf_prog,
  List.map_cons, List.map_nil, List.length_cons, List.length_nil, List.replicate, List.cons_append, List.nil_append, Nat.reduceAdd, Nat.reduceSub, Nat.zero_add, List.append_nil,
  List.set_cons_zero, List.set_cons_succ, List.getElem?_cons_zero, List.getElem?_cons_succ, Option.some.injEq, V.int.injEq, V.bl.injEq, V.ref.injEq, V.str.injEq, V.ty.injEq, List.cons.injEq, and_true, true_and, reduceCtorEq, false_and, exists_false, or_false, false_or, exists_eq_left, exists_eq_left', exists_eq', sw_S, an_S, exists_and_left, exists_const, exists_eq, decide_eq_true_eq, Bool.false_eq_true, if_true, if_false, Bool.not_eq_true', decide_eq_false_iff_not, Bool.not_true, Bool.not_false, ite_not, scal, and_false])
section
variable {P : Program} {w : World} {K : PySem.W.Frag} {mg : Str → Option Value} {base : Heap}
def kvC (ds : List Df) : List (Key × V) := ds.map fun d => (.inr d.name, nv d.ps.length)
theorem valV_C (n : Str) : ∀ ds : List Df, valV (kvC ds) (.inr n) = (findD ds n).map fun d => nv d.ps.length
  | [] => rfl
  | d :: ds => by
    have ih := valV_C n ds
    unfold kvC findD at ih ⊢
    rw [List.map_cons, List.find?_cons]
    by_cases e : d.name = n
    · rw [valV_pos (by rw [e]), decide_eq_true e]
      rfl
    · rw [valV_neg (fun z => e (Sum.inr.inj z)), decide_eq_false e, ih]
theorem getC {H : Hp} {c : Addr} {ds : List Df} (h : H c = some (.dK (kvC ds))) (n : Str) : DGet H c (.str n) ((findD ds n).map fun d => nv d.ps.length) := by
  rw [← valV_C]
  exact DGet.k (k := .inr n) h
def ValF (H : Hp) (v : V) : Option Flt → Prop
  | none => v = .non
  | some (.unk n) => ∃ p, v = .ref p ∧ H p = some (.tup [.str (S (cs "unknown")), .str n])
  | some (.cla n) => ∃ p, v = .ref p ∧ H p = some (.tup [.str (S (cs "clashing")), .str n])
  | some .mis => ∃ p, v = .ref p ∧ H p = some (.tup [.str (S (cs "misused")), .str (S (cs "count"))])
theorem ValF.tups {H H' : Hp} {v : V} {o : Option Flt} (h : ValF H v o) (e : Tups H H') : ValF H' v o := by
  cases o with
  | none => exact h
  | some x => cases x <;> (obtain ⟨p, h1, h2⟩ := h; exact ⟨p, h1, e _ _ h2⟩)
theorem fsFlat {α β γ : Type} (g : β → Option γ) (h : α → List β) : ∀ L : List α, (L.flatMap h).findSome? g = L.findSome? fun x => (h x).findSome? g
  | [] => rfl
  | x :: L => by
    rw [List.flatMap_cons, List.findSome?_append, fsFlat g h L, List.findSome?_cons]
    cases (h x).findSome? g <;> rfl
theorem faultF_eq (ds : List Df) (ws : List (Str × Addr)) (f : Fm) : faultF ds ws f = match nfault ds ws f with
    | some e => some e
    | none => (subs f).findSome? (faultF ds ws) := by
  unfold faultF
  rw [preF_subs, List.findSome?_cons, fsFlat]
  cases nfault ds ws f <;> rfl
def SpFt : Nat → Sp := fun n vs H Q _ => ∃ (c wl t : Addr) (ds : List Df) (ws : List (Str × Addr)) (f : Fm), vs = [.ref c, .ref wl, .ref t] ∧ H c = some (.dK (kvC ds)) ∧ H wl = some (.lst ((ws.map (·.1)).map V.str)) ∧ FmAt H t f ∧ f.dep < n ∧ ∀ v H', Same H H' → ValF H' v (faultF ds ws f) → Q v H'
theorem c__law_fault {f : Addr} {fd : FuncData} (D : C8.Def K mg "_law_fault" s__law_fault f fd) (b : Binds K fd ["counts", "words", "formula"] []) (c__law_parts : C8.Cal P w K mg base 1 "_law_parts" sp_lparts []) (z_len : mg "len" = none) : ∀ n : Nat, C8.Cal P w K mg base (n + 2) "_law_fault" (SpFt n) []
  | 0 => C8.cal0 (k := 1) D b .nil sc__law_fault (fun vs H Q E h => by obtain ⟨_, _, _, _, _, _, rfl, _⟩ := h; rfl) (fun cdv A outer s H vs Q E hr h => by obtain ⟨_, _, _, _, _, _, _, _, _, _, h, _⟩ := h; exact absurd h (Nat.not_lt_zero _))
  | n + 1 => by
    have c__law_fault := c__law_fault D b c__law_parts z_len n
    refine C8.cal0 (k := n + 2) D b .nil sc__law_fault (fun vs H Q E h => ?_) (fun cdv A outer s H vs Q E hr h => ?_)
    · obtain ⟨_, _, _, _, _, _, rfl, _⟩ := h
      rfl
    · obtain ⟨c, wl, t, ds, ws, f1, rfl, hc, hwl, hf, hd, ok⟩ := h
      refine ⟨_, (C8.pss_cut (ps_if (PW.pt (pw_and (pt_cmpR (op_eq) (pe_ix (ixT K) (pv 2) pe_int (fun _ _ => rfl)) pe_str (nomark _)) (pw_and1 (pt_cmpR (notInQ K) (pe_ix (ixT K) (pv 2) pe_int (fun _ _ => rfl)) (pv 1) (by with_unfolding_all rfl))))) (pss_one (ps_ret (pe_tup (pa_cons pe_str (pa_cons (pe_ix (ixT K) (pv 2) pe_int (fun _ _ => rfl)) pa_nil))))) pss_nil) (C8.pss_cut (ps_if (pt_cmpR (op_eq) (pe_ix (ixT K) (pv 2) pe_int (fun _ _ => rfl)) pe_str (nomark _)) (pss_cons (ps_if (pt_cmp (pc_dnotin (hu1 hr) (pe_ix (ixT K) (pv 2) pe_int (fun _ _ => rfl)) (pv 0))) (pss_one (ps_ret (pe_tup (pa_cons pe_str (pa_cons (pe_ix (ixT K) (pv 2) pe_int (fun _ _ => rfl)) pa_nil))))) pss_nil) (pss_one (ps_if (pt_cmpR (op_ne) (pe_dget (hu1 hr) (pv 0) (pe_ix (ixT K) (pv 2) pe_int (fun _ _ => rfl)) (fun _ _ => rfl)) (pe_callB (lenS K) (by rfl) z_len PySem.boot_len (pa_cons (pe_ix (ixT K) (pv 2) pe_int (fun _ _ => rfl)) pa_nil)) (nomark _)) (pss_one (ps_ret (pe_tup (pa_cons pe_str (pa_cons pe_str pa_nil))))) pss_nil))) pss_nil) (pss_cons (ps_for PassesOwn.never rfl (piL K (C8.pe_c c__law_parts hr (by omega) (by rfl) (pa_cons (pv 2) pa_nil))) (pg_name (i := 3) sc__law_fault.nd rfl (by first | exact Or.inl rfl | exact Or.inr rfl)) (pss_cons (ps_set (i := 4) sc__law_fault.nd rfl (by first | exact Or.inl rfl | exact Or.inr rfl) (C8.pe_c c__law_fault hr (by omega) (by rfl) (pa_cons (pv 0) (pa_cons (pv 1) (pa_cons (pv 3) pa_nil))))) (pss_one (ps_if (pt_cmpR (op_notN) (pv 4) pe_non (nomark _)) (pss_one (ps_ret (pv 4))) pss_nil)))) (pss_one (ps_ret pe_non))))), ?_⟩
      have ft := faultF_eq ds ws f1
      obtain ⟨xs, hx⟩ := fm_hd hf
      refine cut_by (fun σ' H' => [some (V.ref c), some (V.ref wl), some (V.ref t), none, none] = σ' ∧ H = H' ∧ (hdF f1 = cs "word" → nfault ds ws f1 = none)) (fun N hN => ?_) ?_
      · walk_at "rd"
        refine ⟨_, SqT.of hx, _, atI_nat (j := 0) rfl, rfl, ?_⟩
        by_cases hw : hdF f1 = cs "word"
        · rw [if_pos (by rw [hw])]
          cases f1 with
          | word x z o =>
            refine ⟨_, SqT.of hf, _, atI_nat (j := 1) rfl, _, .inl (SqL.of hwl), rfl, flat_str _, ?_⟩
            rw [inV_str]
            have nf : nfault ds ws (.word x z o) = if (findW ws (S x)).isSome = true then none else some (.unk (S x)) := rfl
            by_cases hm : S x ∈ ws.map (·.1)
            · rw [if_neg (by simpa using hm)]
              refine hN _ _ ⟨rfl, rfl, fun _ => ?_⟩
              rw [nf]
              cases e : findW ws (S x) with
              | none => exact absurd hm (findW_none.mp e)
              | some y => rfl
            · rw [if_pos (by simpa using hm)]
              rw [nf, findW_none.mpr hm] at ft
              refine ⟨_, SqT.of hf, _, atI_nat (j := 1) rfl, by decide, fun p hp => ok _ _ (same_upd hp) ?_⟩
              rw [ft]
              exact ⟨p, rfl, upd_same⟩
          | pow z => exact absurd hw (by decide +kernel : ¬ cs "pow" = cs "word")
          | not a => exact absurd hw (by decide +kernel : ¬ cs "not" = cs "word")
          | call g zs => exact absurd hw (by decide +kernel : ¬ cs "call" = cs "word")
          | cmp k p2 c2 => exact absurd hw (kCmp_nw k).1
          | qf k z a => exact absurd hw (kQf_nw k).1
          | bin k a a2 => exact absurd hw (kBin_nw k).1
        · rw [if_neg (fun e => hw (S_inj (V.str.inj e)))]
          exact hN _ _ ⟨rfl, rfl, fun e => absurd e hw⟩
      rintro σ' H' ⟨rfl, rfl, hn1⟩
      refine cut_by (fun σ' H' => [some (V.ref c), some (V.ref wl), some (V.ref t), none, none] = σ' ∧ H = H' ∧ nfault ds ws f1 = none) (fun N hN => ?_) ?_
      · walk_at "rd"
        refine ⟨_, SqT.of hx, _, atI_nat (j := 0) rfl, rfl, ?_⟩
        by_cases hw : hdF f1 = cs "call"
        · rw [if_pos (by rw [hw])]
          cases f1 with
          | call g zs =>
            obtain ⟨u, h1, h2⟩ := hf
            have nf : nfault ds ws (.call g zs) = match findD ds (S g) with
              | none => some (.unk (S g))
              | some d => if d.ps.length = zs.length then none else some .mis := rfl
            refine ⟨_, SqT.of h1, _, atI_nat (j := 1) rfl, _, getC hc _, ?_⟩
            cases e : findD ds (S g) with
            | none =>
              rw [e] at nf
              rw [nf] at ft
              rw [if_pos (by rfl)]
              refine ⟨_, SqT.of h1, _, atI_nat (j := 1) rfl, by decide, fun p hp => ok _ _ (same_upd hp) ?_⟩
              rw [ft]
              exact ⟨p, rfl, upd_same⟩
            | some d =>
              rw [e] at nf
              rw [if_neg (by simp)]
              have hg := getC hc (S g)
              rw [e] at hg
              refine ⟨_, SqT.of h1, _, atI_nat (j := 1) rfl, _, hg, _, SqT.of h1, _, atI_nat (j := 2) rfl, u, rfl, _, .inr (SqT.of h2), rfl, ?_⟩
              rw [List.length_map]
              by_cases hl : d.ps.length = zs.length
              · rw [if_pos (by rw [← hl])]
                exact hN _ _ ⟨rfl, rfl, by rw [nf]; exact if_pos hl⟩
              · rw [if_neg (fun e => hl (by have := V.int.inj e; omega))]
                rw [nf] at ft
                simp only [hl, if_false] at ft
                refine ⟨by decide, fun p hp => ok _ _ (same_upd hp) ?_⟩
                rw [ft]
                exact ⟨p, rfl, upd_same⟩
          | pow z => exact absurd hw (by decide +kernel : ¬ cs "pow" = cs "call")
          | not a => exact absurd hw (by decide +kernel : ¬ cs "not" = cs "call")
          | word x z o => exact absurd hw (by decide +kernel : ¬ cs "word" = cs "call")
          | cmp k p2 c2 => exact absurd hw (kCmp_nw k).2
          | qf k z a => exact absurd hw (kQf_nw k).2
          | bin k a a2 => exact absurd hw (kBin_nw k).2
        · rw [if_neg (fun e => hw (S_inj (V.str.inj e)))]
          refine hN _ _ ⟨rfl, rfl, ?_⟩
          cases f1 with
          | call g zs => exact absurd rfl hw
          | word x z o => exact hn1 rfl
          | _ => rfl
      rintro σ' H' ⟨rfl, rfl, hn2⟩
      rw [hn2] at ft
      walk_at "rd"
      refine ⟨t, f1, rfl, hf, fun l as H1 s1 hl h1 has => ⟨l, rfl, ⟨_, SqL.of h1⟩, ?_⟩⟩
      refine for_listN (xs := as.map V.ref) (fun i σ H2 => (∃ u3 u4, [some (V.ref c), some (V.ref wl), some (V.ref t), u3, u4] = σ) ∧ Same H1 H2 ∧ ((subs f1).take i).findSome? (faultF ds ws) = none) ?_ ?_ ?_ ?_
      · exact ⟨⟨_, _, rfl⟩, Same.refl _, rfl⟩
      · rintro i σ H2 _ ⟨_, s2, _⟩
        exact SqL.of (s2 _ _ h1)
      · rintro i x σ H2 N2 hx2 ⟨⟨u3, u4, rfl⟩, s2, hno⟩ hN2
        rw [List.getElem?_map] at hx2
        obtain ⟨a, ha, rfl⟩ := Option.map_eq_some_iff.mp hx2
        obtain ⟨g, hg, hga⟩ := has.at_ ha
        have s12 := s1.trans s2
        have fk := fs_take hg hno
        walk_at "rd"
        refine ⟨c, wl, a, ds, ws, g, rfl, s12 _ _ hc, s12 _ _ hwl, hga.tups (Tups.same s2), subs_dep (List.mem_of_getElem? hg) hd, fun v H3 s3 hv => ?_⟩
        cases e : faultF ds ws g with
        | none =>
          rw [e] at hv
          rw [show v = .non from hv]
          rw [if_pos rfl]
          exact hN2 _ _ ⟨⟨_, _, rfl⟩, s2.trans s3, fk.2 e⟩
        | some y =>
          rw [e] at hv
          have nv' : v ≠ .non := by
            intro z
            cases y <;> (obtain ⟨p, h1, _⟩ := hv; rw [h1] at z; cases z)
          rw [if_neg nv']
          rw [fk.1 y e] at ft
          exact ok v _ (s12.trans s3) (by rw [ft]; exact hv)
      · rintro σ H2 ⟨⟨u3, u4, rfl⟩, s2, hno⟩
        rw [List.length_map, has.len, List.take_length] at hno
        exact ok _ _ (s1.trans s2) (by rw [ft, hno]; rfl)

end
end
section
local macro_rules | `(tactic| walk_at "rd") => `(tactic| simp only [tSeq, tNext, tAsg, gName, tRet, tRetN, tIfS, tDrop, tVar, tC, tOp, tUn, tTest, tCB, tCons, tNil, tB, tAnd, tOr, tNot, tAndV, tOrV, tNotV, tIf, tCall, tTup, tLst, tSl, tPart, tNoPart, tM0, tM1, tBM, tChain, tBreak, tCont, tNever, tAug, ipI, tPar, tyV_str,
  tFor_eq, tLc_eq, tMkO, tYes, wipe, ofStr_S, S_cat, one_S, len_S, S_iff, S_cps, Int.zero_add, gNil, gCons, gTup, gSub, iRng1, iRng2, iList, iTup, iStr, rI0, rI, rU, rEq, rNe, rIxL, rIxT, rIxS, Dw.rLen, rListOf, rTupOf, rNotB, rIsB, rMulS, rIn, rCat, rAppend, rCatA, rEqD, rNeD, C8.rSlX, tDGet, Int.toNat_natCast, WE, iEnum, iRev, rSum, tFd, tFs, tMake, tMakeS, tMeth, Dw.tMethS, tCallS, rSlL, rSlA, tDGet2, tDIn, tDNotIn, rSetD, rAll, rKIn, tBM0, rPop, rExtend, tAddT, rAddT, rSetT0, Dw.rSetL, rSortT, StX.tStar, tDNewK, tDisp, tPairs, L2.start, cxOf_K, cxOf_w, cxOf_prog,
  List.map_cons, List.map_nil, List.length_cons, List.length_nil, List.replicate, List.cons_append, List.nil_append, Nat.reduceAdd, Nat.reduceSub, Nat.zero_add, List.append_nil,
  List.set_cons_zero, List.set_cons_succ, List.getElem?_cons_zero, List.getElem?_cons_succ, Option.some.injEq, V.int.injEq, V.bl.injEq, V.ref.injEq, V.str.injEq, V.ty.injEq, List.cons.injEq, and_true, true_and, reduceCtorEq, false_and, exists_false, or_false, false_or, exists_eq_left, exists_eq_left', exists_eq', sw_S, an_S, exists_and_left, exists_const, exists_eq, decide_eq_true_eq, Bool.false_eq_true, if_true, if_false, Bool.not_eq_true', decide_eq_false_iff_not, Bool.not_true, Bool.not_false, ite_not, scal, and_false])
section
variable {P : Program} {w : World} {K : PySem.W.Frag} {mg : Str → Option Value} {base : Heap}
theorem mem_frN : ∀ (f : Fm) (bd : List Str) (z : Str), z ∈ frN f bd ↔ z ∈ fvL f ∧ z ∉ bd
  | .not a, bd, z => by
    rw [show frN (.not a) bd = frN a bd from rfl, mem_frN a bd z]
    simp [fvL, addU_mem]
  | .bin k a b, bd, z => by
    rw [show frN (.bin k a b) bd = frN b bd ++ frN a bd from rfl, List.mem_append, mem_frN a bd z, mem_frN b bd z]
    simp only [fvL, addU_mem, List.not_mem_nil, false_or]
    constructor
    · rintro (⟨h1, h2⟩ | ⟨h1, h2⟩)
      · exact ⟨.inr h1, h2⟩
      · exact ⟨.inl h1, h2⟩
    · rintro ⟨h1 | h1, h2⟩
      · exact .inr ⟨h1, h2⟩
      · exact .inl ⟨h1, h2⟩
  | .qf k y a, bd, z => by
    rw [show frN (.qf k y a) bd = frN a (bd ++ [S y]) from rfl, mem_frN a _ z]
    simp only [fvL, List.mem_filter, addU_mem, List.not_mem_nil, false_or, List.mem_append, List.mem_singleton, not_or, decide_eq_true_eq, ne_eq]
    constructor
    · rintro ⟨h1, h2, h3⟩
      exact ⟨⟨h1, h3⟩, h2⟩
    · rintro ⟨⟨h1, h3⟩, h2⟩
      exact ⟨h1, h2, h3⟩
  | .pow y, bd, z => by simp [frN, fvL, addU_mem, own, ownL]
  | .word x y o, bd, z => by simp [frN, fvL, addU_mem, own, ownL]
  | .cmp k ps c, bd, z => by simp [frN, fvL, addU_mem, own, ownL]
  | .call g zs, bd, z => by simp [frN, fvL, addU_mem, own, ownL]
theorem fv_perm (f : Fm) : (fvL f).Perm (setL (frN f [])) := by
  refine (List.perm_ext_iff_of_nodup (fvL_nodup f) (setL_nodup _)).mpr fun z => ?_
  rw [setL_mem, mem_frN]
  simp
theorem frN_sz (f : Fm) (h : f.Good) (bd : List Str) : (frN f bd).length ≤ 30 * fsize f := by
  cases f with
  | not a => have := frN_sz a h bd; simp only [frN, fsize]; omega
  | qf k y a => have := frN_sz a h.2 (bd ++ [S y]); simp only [frN, fsize]; omega
  | bin k a b => have h1 := frN_sz a h.1 bd; have h2 := frN_sz b h.2 bd; simp only [frN, fsize, List.length_append]; omega
  | pow y => simp only [frN, fsize]; exact Nat.le_trans (List.length_filter_le _ _) (by simp [own])
  | word x y o => simp only [frN, fsize]; exact Nat.le_trans (List.length_filter_le _ _) (by simp [own])
  | cmp k ps c => simp only [frN, fsize]; exact Nat.le_trans (List.length_filter_le _ _) (by simpa [own, keys] using h.2.2.2.2.2)
  | call g zs => simp only [frN, fsize]; exact Nat.le_trans (List.length_filter_le _ _) (by simpa [own] using h.2.2.1)
theorem fsize_dep : ∀ f : Fm, fsize f + 1 ≤ 2 ^ (f.dep + 1)
  | .not a => by
    have := fsize_dep a
    simp only [fsize, Fm.dep]
    rw [Nat.pow_succ]
    omega
  | .qf k z a => by
    have := fsize_dep a
    simp only [fsize, Fm.dep]
    rw [Nat.pow_succ]
    omega
  | .bin k a b => by
    have h1 := fsize_dep a
    have h2 := fsize_dep b
    simp only [fsize, Fm.dep]
    have h7 : 2 ^ (a.dep + 1) ≤ 2 ^ (max a.dep b.dep + 1) := Nat.pow_le_pow_right (by decide) (by omega)
    have h8 : 2 ^ (b.dep + 1) ≤ 2 ^ (max a.dep b.dep + 1) := Nat.pow_le_pow_right (by decide) (by omega)
    rw [Nat.pow_succ 2 (max a.dep b.dep + 1)]
    omega
  | .pow z => by simp [fsize, Fm.dep]
  | .word w z o => by simp [fsize, Fm.dep]
  | .cmp k ps c => by simp [fsize, Fm.dep]
  | .call f zs => by simp [fsize, Fm.dep]
def sp_ldue : Sp := fun vs H Q _ => ∃ (c wl P t : Addr) (n : Str) (ds : List Df) (ws : List (Str × Addr)) (ps : List Str) (f : Fm) (U : List Str), vs = [.ref c, .ref wl, .str n, .ref P, .ref t] ∧ H c = some (.dK (kvC ds)) ∧ H wl = some (.lst ((ws.map (·.1)).map V.str)) ∧ H P = some (.lst (ps.map V.str)) ∧ ps.length ≤ 100 ∧ FmAt H t f ∧ f.Good ∧ f.dep < 3 ∧ (∀ z ∈ allN f, z ∈ U) ∧ U.length < 64 ∧ ∀ v H', Same H H' → ValF H' v (dueD ds ws n ps f) → Q v H'
theorem c__law_due {f : Addr} {fd : FuncData} (D : C8.Def K mg "_law_due" s__law_due f fd) (b : Binds K fd ["counts", "words", "name", "parameters", "formula"] []) (c__law_fault : C8.Cal P w K mg base 5 "_law_fault" (SpFt 3) []) (c__law_free : C8.Cal P w K mg base 5 "_law_free" (SpFr 3) []) (z_range : mg "range" = none) (z_len : mg "len" = none) (z_sorted : mg "sorted" = none) : C8.Cal P w K mg base 6 "_law_due" sp_ldue [] := by
  refine C8.cal0 D b .nil sc__law_due (fun vs H Q E h => ?_) (fun cdv A outer s H vs Q E hr h => ?_)
  · obtain ⟨_, _, _, _, _, _, _, _, _, _, rfl, _⟩ := h
    rfl
  · obtain ⟨c, wl, T, t, n, ds, ws, ps, f1, U, rfl, hc, hwl, hT, hpl, hf, hgd, hd, hall, hU, ok⟩ := h
    refine ⟨_, (C8.pss_cut (ps_if (pt_cmp (pc_din (hu1 hr) (pv 2) (pv 0))) (pss_one (ps_ret (pe_tup (pa_cons pe_str (pa_cons (pv 2) pa_nil))))) pss_nil) (C8.pss_cut (ps_for PassesOwn.never rfl (pi_range1 (by rfl) z_range (pa_cons (pe_callB (lenS K) (by rfl) z_len PySem.boot_len (pa_cons (pv 3) pa_nil)) pa_nil)) (pg_name (i := 5) sc__law_due.nd rfl (by first | exact Or.inl rfl | exact Or.inr rfl)) (pss_one (ps_if (pt_cmpR (inQ K) (pe_ix (ixL K) (pv 3) (pv 5) (fun _ _ => rfl)) (pe_slice (slL K) (pv 3) po_none (po_some (pv 5))) (by with_unfolding_all rfl)) (pss_one (ps_ret (pe_tup (pa_cons pe_str (pa_cons (pe_ix (ixL K) (pv 3) (pv 5) (fun _ _ => rfl)) pa_nil))))) pss_nil))) (C8.pss_cut (ps_set (i := 6) sc__law_due.nd rfl (by first | exact Or.inl rfl | exact Or.inr rfl) (C8.pe_c c__law_fault hr (by decide) (by rfl) (pa_cons (pv 0) (pa_cons (pv 1) (pa_cons (pv 4) pa_nil))))) (C8.pss_cut (ps_if (pt_cmpR (op_notN) (pv 6) pe_non (nomark _)) (pss_one (ps_ret (pv 6))) pss_nil) (pss_cons (ps_for PassesOwn.never rfl (piL K (pe_callB cr_sortedS (by rfl) z_sorted (by decide +kernel) (pa_cons (C8.pe_c c__law_free hr (by decide) (by rfl) (pa_cons (pv 4) pa_nil)) pa_nil))) (pg_name (i := 7) sc__law_due.nd rfl (by first | exact Or.inl rfl | exact Or.inr rfl)) (pss_one (ps_if (pt_cmpR (notInQ K) (pv 7) (pv 3) (by with_unfolding_all rfl)) (pss_one (ps_ret (pe_tup (pa_cons pe_str (pa_cons (pv 7) pa_nil))))) pss_nil))) (pss_one (ps_ret pe_non))))))), ?_⟩
    refine cut_by (fun σ' H' => [some (V.ref c), some (V.ref wl), some (V.str n), some (V.ref T), some (V.ref t), none, none, none] = σ' ∧ H = H' ∧ findD ds n = none) (fun N hN => ?_) ?_
    · walk_at "rd"
      refine ⟨_, getC hc n, ?_⟩
      cases e : findD ds n with
      | some d =>
        rw [dueD_cla e] at ok
        rw [if_pos (by rfl)]
        exact ⟨by decide, fun p hp => ok _ _ (same_upd hp) ⟨p, rfl, upd_same⟩⟩
      | none =>
        rw [if_neg (by decide)]
        exact hN _ _ ⟨rfl, rfl, e⟩
    rintro σ' H' ⟨rfl, rfl, hnd⟩
    refine cut_by (fun σ' H' => (∃ u, [some (V.ref c), some (V.ref wl), some (V.str n), some (V.ref T), some (V.ref t), u, none, none] = σ') ∧ Same H H' ∧ dupF ps = none) (fun N hN => ?_) ?_
    · walk_at "rd"
      refine ⟨_, .inl (SqL.of hT), by rw [List.length_map]; omega, by rw [List.length_map]; omega, ?_⟩
      refine for_rangeN (fun i σ H2 => (∃ u, [some (V.ref c), some (V.ref wl), some (V.str n), some (V.ref T), some (V.ref t), u, none, none] = σ) ∧ Same H H2 ∧ ((List.range ps.length).take i).findSome? (dupAt ps) = none) ?_ ?_ ?_
      · exact ⟨⟨_, rfl⟩, Same.refl _, rfl⟩
      · rintro i σ H2 N2 hi ⟨⟨u, rfl⟩, s2, hno⟩ hN2
        rw [List.length_map] at hi
        have ft := fs_take (show (List.range ps.length)[i]? = some i by simp [hi]) hno
        have hT2 := s2 _ _ hT
        walk_at "rd"
        have hz : ps[i]? = some ps[i] := List.getElem?_eq_getElem hi
        refine ⟨_, SqL.of hT2, _, at_map hz, _, SqL.of hT2, fun p hp => ?_⟩
        rw [cutV_to (by rw [List.length_map]; omega), ← List.map_take]
        have s3 := same_upd (o := .lst ((ps.take i).map V.str)) hp
        refine ⟨_, .inl (SqL.of upd_same), rfl, flat_str _, ?_⟩
        rw [inV_str]
        by_cases hm : ps[i] ∈ ps.take i
        · rw [if_pos (by simpa using hm)]
          have e := ft.1 ps[i] (by unfold dupAt; rw [hz]; exact if_pos hm)
          rw [dueD_dup hnd e] at ok
          exact ⟨_, SqL.of (s3 _ _ hT2), _, at_map hz, by decide, fun p2 hp2 => ok _ _ ((s2.trans s3).trans (same_upd hp2)) ⟨p2, rfl, upd_same⟩⟩
        · rw [if_neg (by simpa using hm)]
          exact hN2 _ _ ⟨⟨_, rfl⟩, s2.trans s3, ft.2 (by unfold dupAt; rw [hz]; exact if_neg hm)⟩
      · rintro σ H2 ⟨⟨u, rfl⟩, s2, hno⟩
        rw [List.length_map, List.take_of_length_le (by simp)] at hno
        exact hN _ _ ⟨⟨_, rfl⟩, s2, hno⟩
    rintro σ' H1 ⟨⟨u, rfl⟩, s1, hdp⟩
    refine cut_by (fun σ' H' => (∃ v, [some (V.ref c), some (V.ref wl), some (V.str n), some (V.ref T), some (V.ref t), u, some v, none] = σ' ∧ ValF H' v (faultF ds ws f1)) ∧ Same H H') (fun N hN => ?_) ?_
    · walk_at "rd"
      exact ⟨c, wl, t, ds, ws, f1, rfl, s1 _ _ hc, s1 _ _ hwl, hf.tups (Tups.same s1), hd, fun v H2 s2 hv => hN _ _ ⟨⟨v, rfl, hv⟩, s1.trans s2⟩⟩
    rintro σ' H2 ⟨⟨v, rfl, hv⟩, s2⟩
    refine cut_by (fun σ' H' => (∃ u2, [some (V.ref c), some (V.ref wl), some (V.str n), some (V.ref T), some (V.ref t), u, u2, none] = σ') ∧ Same H H' ∧ faultF ds ws f1 = none) (fun N hN => ?_) ?_
    · walk_at "rd"
      cases e : faultF ds ws f1 with
      | none =>
        rw [e] at hv
        rw [show v = .non from hv]
        rw [if_pos rfl]
        exact hN _ _ ⟨⟨_, rfl⟩, s2, e⟩
      | some y =>
        rw [e] at hv
        have nv' : v ≠ .non := by
          intro z
          cases y <;> (obtain ⟨p, h1, _⟩ := hv; rw [h1] at z; cases z)
        rw [if_neg nv']
        rw [dueD_flt hnd hdp e] at ok
        exact ok v _ s2 hv
    rintro σ' H2 ⟨⟨u2, rfl⟩, s2, hft⟩
    rw [dueD_unk hnd hdp hft] at ok
    walk_at "rd"
    refine ⟨t, f1, U, rfl, hf.tups (Tups.same s2), hgd, hd, hall, by omega, fun l H3 s3 hl h3 => ?_⟩
    have hfl : (fvL f1).length ≤ U.length := fvL_len f1 hall
    refine ⟨l, fvL f1, rfl, SqL.of h3, by omega, fun ys p hp1 hso hp => ⟨p, rfl, ⟨_, SqL.of upd_same⟩, ?_⟩⟩
    have ey : ys = srt (setL (frN f1 [])) := srt_of (hp1.trans (fv_perm f1)) hso
    have s4 := same_upd (o := .lst (ys.map V.str)) hp
    obtain ⟨H4, hH4⟩ : ∃ H4, H4 = upd H3 p (.lst (ys.map V.str)) := ⟨_, rfl⟩
    have h4 : H4 p = some (.lst ((srt (setL (frN f1 []))).map V.str)) := by rw [hH4, upd_same, ey]
    rw [← hH4] at s4 ⊢
    have s24 := (s2.trans s3).trans s4
    refine for_listN (xs := (srt (setL (frN f1 []))).map V.str) (fun i σ H5 => (∃ u7, [some (V.ref c), some (V.ref wl), some (V.str n), some (V.ref T), some (V.ref t), u, u2, u7] = σ) ∧ Same H4 H5 ∧ ((srt (setL (frN f1 []))).take i).findSome? (fun z => if z ∈ ps then none else some z) = none) ?_ ?_ ?_ ?_
    · exact ⟨⟨_, rfl⟩, Same.refl _, rfl⟩
    · rintro i σ H5 _ ⟨_, s5, _⟩
      exact SqL.of (s5 _ _ h4)
    · rintro i x σ H5 N2 hx ⟨⟨u7, rfl⟩, s5, hno⟩ hN2
      rw [List.getElem?_map] at hx
      obtain ⟨z, hz, rfl⟩ := Option.map_eq_some_iff.mp hx
      have ft := fs_take hz hno
      have s45 := s24.trans s5
      walk_at "rd"
      refine ⟨_, .inl (SqL.of (s45 _ _ hT)), rfl, flat_str _, ?_⟩
      rw [inV_str]
      by_cases hm : z ∈ ps
      · rw [if_neg (by simpa using hm)]
        exact hN2 _ _ ⟨⟨_, rfl⟩, s5, ft.2 (if_pos hm)⟩
      · rw [if_pos (by simpa using hm)]
        have e := ft.1 z (if_neg hm)
        rw [e] at ok
        exact ⟨by decide, fun p2 hp2 => ok _ _ (s45.trans (same_upd hp2)) ⟨p2, rfl, upd_same⟩⟩
    · rintro σ H5 ⟨⟨u7, rfl⟩, s5, hno⟩
      rw [List.length_map, List.take_length] at hno
      refine ok _ _ (s24.trans s5) ?_
      rw [hno]
      rfl

end
end
section
local macro_rules | `(tactic| walk_at "rd") => `(tactic| simp only [tSeq, tNext, tAsg, gName, tRet, tRetN, tIfS, tDrop, tVar, tC, tOp, tUn, tTest, tCB, tCons, tNil, tB, tAnd, tOr, tNot, tAndV, tOrV, tNotV, tIf, tCall, tTup, tLst, tSl, tPart, tNoPart, tM0, tM1, tBM, tChain, tBreak, tCont, tNever, tAug, ipI, tPar, tyV_str,
  tFor_eq, tLc_eq, tMkO, tYes, wipe, ofStr_S, S_cat, one_S, len_S, S_iff, S_cps, Int.zero_add, gNil, gCons, gTup, gSub, iRng1, iRng2, iList, iTup, iStr, rI0, rI, rU, rEq, rNe, rIxL, rIxT, rIxS, Dw.rLen, rListOf, rTupOf, rNotB, rIsB, rMulS, rIn, rCat, rAppend, rCatA, rEqD, rNeD, C8.rSlX, tDGet, Int.toNat_natCast, WE, iEnum, iRev, rSum, tFd, tFs, tMake, tMakeS, tMeth, Dw.tMethS, tCallS, rSlL, rSlA, tDGet2, tDIn, tDNotIn, rSetD, rAll, rKIn, tBM0, rPop, rExtend, tAddT, rAddT, rSetT0, Dw.rSetL, rSortT, StX.tStar, tDNewK, tDisp, tPairs, L2.start, cxOf_K, cxOf_w, cxOf_prog,
  List.map_cons, List.map_nil, List.length_cons, List.length_nil, List.replicate, List.cons_append, List.nil_append, Nat.reduceAdd, Nat.reduceSub, Nat.zero_add, List.append_nil,
  List.set_cons_zero, List.set_cons_succ, List.getElem?_cons_zero, List.getElem?_cons_succ, Option.some.injEq, V.int.injEq, V.bl.injEq, V.ref.injEq, V.str.injEq, V.ty.injEq, List.cons.injEq, and_true, true_and, reduceCtorEq, false_and, exists_false, or_false, false_or, exists_eq_left, exists_eq_left', exists_eq', sw_S, an_S, exists_and_left, exists_const, exists_eq, decide_eq_true_eq, Bool.false_eq_true, if_true, if_false, Bool.not_eq_true', decide_eq_false_iff_not, Bool.not_true, Bool.not_false, ite_not, scal, and_false])
section
variable {P : Program} {w : World} {K : PySem.W.Frag} {mg : Str → Option Value} {base : Heap}
def sp_ltold (CB CCl CUn CMis : Addr) : Sp := fun vs H Q _ => ∃ (b D W t : Addr) (n : Str) (ds : List Df) (ws : List (Str × Addr)) (f : Fm) (x : V), vs = [.ref b, .str n, x, .ref t] ∧ BkAt CB H b D W ds ws ∧ FmAt H t f ∧ f.Good ∧ fsize f ≤ 100 ∧ (frN f []).length ≤ 3000 ∧ (setL (frN f [])).length < 64 ∧ (preF f).length ≤ 1000 ∧ ds.length < 100 ∧
  ((x = .non ∧ ∀ v H', Same H H' → ValF H' v (faultF ds ws f) → Q v H') ∨
   ∃ T ps, x = .ref T ∧ H T = some (.tup (ps.map V.str)) ∧ ps.length ≤ 100 ∧ (dueD ds ws n ps f = none → ∀ t' H', H t' = none → But D H H' → BkAt CB H' b D W (ds ++ [⟨n, ps, f, t', T, t⟩]) ws → Q .non H') ∧ (∀ y, dueD ds ws n ps f = some y → ∀ v H', Same H H' → ValF H' v (some y) → Q v H'))
theorem fcatch {CCl CUn CMis : Addr} {H : Hp} {E : XK} {Qn : Prop} {o : Option Flt} (h1 : o = none → Qn)
    (h2 : ∀ n, o = some (.unk n) → ∀ d H', Same H H' → H' d = some (.xd [("name", .str n)]) → E (.ref CUn) (some d) H')
    (h3 : ∀ n, o = some (.cla n) → ∀ d H', Same H H' → H' d = some (.xd [("name", .str n)]) → E (.ref CCl) (some d) H')
    (h4 : o = some .mis → ∀ d H', Same H H' → H' d = some (.xd [("why", .str "count")]) → E (.ref CMis) (some d) H') : FRes CCl CUn CMis H E Qn o := by
  cases o with
  | none => exact h1 rfl
  | some y =>
    cases y with
    | unk n => exact fun d H' s _ hd => h2 n rfl d H' s hd
    | cla n => exact fun d H' s _ hd => h3 n rfl d H' s hd
    | mis => exact fun d H' s _ hd => h4 rfl d H' s hd
theorem c__law_told {f : Addr} {fd : FuncData} (D : C8.Def K mg "_law_told" s__law_told f fd) (b : Binds K fd ["book", "name", "parameters", "formula"] []) {CB : Addr} {CCl : Addr} (x_Clashing : ExF P w K mg base "Clashing" CCl "name") {CUn : Addr} (x_Unknown : ExF P w K mg base "Unknown" CUn "name") {CMis : Addr} (x_Misused : ExF P w K mg base "Misused" CMis "why") (cc : PySem.W.exmOne K (.ref CCl) (.ref CCl) = some true) (uc : PySem.W.exmOne K (.ref CUn) (.ref CCl) = some false) (mc : PySem.W.exmOne K (.ref CMis) (.ref CCl) = some false) (uu : PySem.W.exmOne K (.ref CUn) (.ref CUn) = some true) (mu : PySem.W.exmOne K (.ref CMis) (.ref CUn) = some false) (mm : PySem.W.exmOne K (.ref CMis) (.ref CMis) = some true) (c_check_formula : CalX P w K mg base 4 "check_formula" (sp_check CB CCl CUn CMis)) (m_Book_define : MetX P w K mg base 5 CB "define" (sp_define CB CCl CUn CMis)) : C8.Cal P w K mg base 7 "_law_told" (sp_ltold CB CCl CUn CMis) [] := by
  refine C8.cal0 D b .nil sc__law_told (fun vs H Q E h => ?_) (fun cdv A outer s H vs Q E hr h => ?_)
  · obtain ⟨_, _, _, _, _, _, _, _, _, rfl, _⟩ := h
    rfl
  · obtain ⟨b0, D, W, t, n, ds, ws, f1, x, rfl, hb, hf, hgd, hsz, h3k, h64, hpf, hdl, hx⟩ := h
    refine ⟨_, (pss_one (ps_try_nams rfl rfl sc__law_told.nd (fun W pn xe tk _ => (pss_cons (ps_if (pt_cmpR (op_isN) (pv 2) pe_non (nomark _)) (pss_one (ps_expr (pe_cs c_check_formula hr (by decide) tk (by rfl) (pa_cons (pv 0) (pa_cons (pv 3) pa_nil))))) (pss_one (ps_expr (pe_mts m_Book_define hr (by decide) tk (pv 0) (pa_cons (pv 1) (pa_cons (pv 2) (pa_cons (pv 3) pa_nil))))))) (pss_one (ps_ret pe_non)))) (NamS.more (i := 4) ⟨by rfl, by decide, .inl x_Clashing.g⟩ rfl rfl (fun a oe cls d pn hz hf => (pss_one (ps_ret (pe_tup (pa_cons pe_str (pa_cons (pe_xf x_Clashing.xf x_Clashing.nof hz hf (pv 4)) pa_nil)))))) (NamS.more (i := 4) ⟨by rfl, by decide, .inl x_Unknown.g⟩ rfl rfl (fun a oe cls d pn hz hf => (pss_one (ps_ret (pe_tup (pa_cons pe_str (pa_cons (pe_xf x_Unknown.xf x_Unknown.nof hz hf (pv 4)) pa_nil)))))) (NamS.more (i := 4) ⟨by rfl, by decide, .inl x_Misused.g⟩ rfl rfl (fun a oe cls d pn hz hf => (pss_one (ps_ret (pe_tup (pa_cons pe_str (pa_cons (pe_xf x_Misused.xf x_Misused.nof hz hf (pv 4)) pa_nil)))))) NamS.stop))))), ?_⟩
    walk_at "rd"
    obtain ⟨dx, hi⟩ := hb.ins
    rcases hx with ⟨rfl, ok⟩ | ⟨T, ps, rfl, hT, hpl, ok1, ok2⟩
    · rw [if_pos rfl]
      refine ⟨b0, D, W, ds, ws, t, f1, rfl, hb, hf, hpf, fcatch (fun e H' s => ok _ _ s (by rw [e]; rfl)) (fun n2 e d H' s hd => ?_) (fun n2 e d H' s hd => ?_) (fun e d H' s hd => ?_)⟩
      · simp only [WE, wNamS, unb]
        refine ⟨false, uc, (fun q => nomatch q), fun _ => ⟨true, uu, fun _ a ha => ?_, (fun q => nomatch q)⟩⟩
        unfold tXf
        walk_at "rd"
        refine ⟨_, hd, .str n2, by rw [← ofStr_S]; simp, by decide, fun p hp => ok _ _ (s.trans (same_upd hp)) (by rw [e]; exact ⟨p, rfl, upd_same⟩)⟩
      · simp only [WE, wNamS, unb]
        refine ⟨true, cc, fun _ a ha => ?_, (fun q => nomatch q)⟩
        unfold tXf
        walk_at "rd"
        refine ⟨_, hd, .str n2, by rw [← ofStr_S]; simp, by decide, fun p hp => ok _ _ (s.trans (same_upd hp)) (by rw [e]; exact ⟨p, rfl, upd_same⟩)⟩
      · simp only [WE, wNamS, unb]
        refine ⟨false, mc, (fun q => nomatch q), fun _ => ⟨false, mu, (fun q => nomatch q), fun _ => ⟨true, mm, fun _ a ha => ?_, (fun q => nomatch q)⟩⟩⟩
        unfold tXf
        walk_at "rd"
        refine ⟨_, hd, .str (S (cs "count")), by rw [← ofStr_S, ← ofStr_S]; simp, by decide, fun p hp => ok _ _ (s.trans (same_upd hp)) (by rw [e]; exact ⟨p, rfl, upd_same⟩)⟩
    · rw [if_neg (by simp)]
      refine ⟨_, _, hi, by rw [← ofStr_S]; exact bf_no _ _ (by decide +kernel) (by decide +kernel), b0, D, W, ds, ws, n, T, t, ps, f1, rfl, hb, hT, hf, hgd, hsz, h3k, h64, hpf, hpl, hdl, fcatch (fun e => ok1 e) (fun n2 e d H' s hd => ?_) (fun n2 e d H' s hd => ?_) (fun e d H' s hd => ?_)⟩
      · simp only [WE, wNamS, unb]
        refine ⟨false, uc, (fun q => nomatch q), fun _ => ⟨true, uu, fun _ a ha => ?_, (fun q => nomatch q)⟩⟩
        unfold tXf
        walk_at "rd"
        refine ⟨_, hd, .str n2, by rw [← ofStr_S]; simp, by decide, fun p hp => ok2 _ e _ _ (s.trans (same_upd hp)) ⟨p, rfl, upd_same⟩⟩
      · simp only [WE, wNamS, unb]
        refine ⟨true, cc, fun _ a ha => ?_, (fun q => nomatch q)⟩
        unfold tXf
        walk_at "rd"
        refine ⟨_, hd, .str n2, by rw [← ofStr_S]; simp, by decide, fun p hp => ok2 _ e _ _ (s.trans (same_upd hp)) ⟨p, rfl, upd_same⟩⟩
      · simp only [WE, wNamS, unb]
        refine ⟨false, mc, (fun q => nomatch q), fun _ => ⟨false, mu, (fun q => nomatch q), fun _ => ⟨true, mm, fun _ a ha => ?_, (fun q => nomatch q)⟩⟩⟩
        unfold tXf
        walk_at "rd"
        refine ⟨_, hd, .str (S (cs "count")), by rw [← ofStr_S, ← ofStr_S]; simp, by decide, fun p hp => ok2 _ e _ _ (s.trans (same_upd hp)) ⟨p, rfl, upd_same⟩⟩

end
end
section
local macro_rules | `(tactic| walk_at "rd") => `(tactic| simp only [tSeq, tNext, tAsg, gName, tRet, tRetN, tIfS, tDrop, tVar, tC, tOp, tUn, tTest, tCB, tCons, tNil, tB, tAnd, tOr, tNot, tAndV, tOrV, tNotV, tIf, tCall, tTup, tLst, tSl, tPart, tNoPart, tM0, tM1, tBM, tChain, tBreak, tCont, tNever, tAug, ipI, tPar, tyV_str,
  tFor_eq, tLc_eq, tMkO, tYes, wipe, ofStr_S, S_cat, one_S, len_S, S_iff, S_cps, Int.zero_add, gNil, gCons, gTup, gSub, iRng1, iRng2, iList, iTup, iStr, rI0, rI, rU, rEq, rNe, rIxL, rIxT, rIxS, Dw.rLen, rListOf, rTupOf, rNotB, rIsB, rMulS, rIn, rCat, rAppend, rCatA, rEqD, rNeD, C8.rSlX, tDGet, Int.toNat_natCast, WE, iEnum, iRev, rSum, tFd, tFs, tMake, tMakeS, tMeth, Dw.tMethS, tCallS, rSlL, rSlA, tDGet2, tDIn, tDNotIn, rSetD, rAll, rKIn, tBM0, rPop, rExtend, tAddT, rAddT, rSetT0, Dw.rSetL, rSortT, StX.tStar, tDNewK, tDisp, tPairs, L2.start, cxOf_K, cxOf_w, cxOf_prog,
  List.map_cons, List.map_nil, List.length_cons, List.length_nil, List.replicate, List.cons_append, List.nil_append, Nat.reduceAdd, Nat.reduceSub, Nat.zero_add, List.append_nil,
  List.set_cons_zero, List.set_cons_succ, List.getElem?_cons_zero, List.getElem?_cons_succ, Option.some.injEq, V.int.injEq, V.bl.injEq, V.ref.injEq, V.str.injEq, V.ty.injEq, List.cons.injEq, and_true, true_and, reduceCtorEq, false_and, exists_false, or_false, false_or, exists_eq_left, exists_eq_left', exists_eq', sw_S, an_S, exists_and_left, exists_const, exists_eq, decide_eq_true_eq, Bool.false_eq_true, if_true, if_false, Bool.not_eq_true', decide_eq_false_iff_not, Bool.not_true, Bool.not_false, ite_not, scal, and_false])
section
variable {P : Program} {w : World} {K : PySem.W.Frag} {mg : Str → Option Value} {base : Heap}
def sp_ltells (CB CT : Addr) : Sp := fun vs H Q _ => ∃ (b D W : Addr) (x : Str) (ds : List Df) (ws : List (Str × Addr)), vs = [.ref b, .str x] ∧ BkAt CB H b D W ds ws ∧ ws.length < 100 ∧ (∀ d, findW ws x = some d → ∀ H', Same H H' → Q (.str x) H') ∧
  (findW ws x = none → ∀ m L H', ToldP CT H' L m [[0, 0]] [1] → (∀ a ∈ L, H a = none) → But W H H' → BkAt CB H' b D W ds (ws ++ [(x, m)]) → Q .non H')
theorem tok1 : TOk [[0, 0]] [1] := by
  refine ⟨by decide, by decide, rfl, by simp, by decide, fun i hi => ?_⟩
  have : i = 0 := by
    have : i < 1 := hi
    omega
  subst this
  rfl
theorem c__law_tells {f : Addr} {fd : FuncData} (D : C8.Def K mg "_law_tells" s__law_tells f fd) (b : Binds K fd ["book", "word"] []) {CB : Addr} {CCl : Addr} (x_Clashing : ExF P w K mg base "Clashing" CCl "name") (cc : PySem.W.exmOne K (.ref CCl) (.ref CCl) = some true) (m_Book_tell : MetX P w K mg base 3 CB "tell" (sp_tell CB CCl)) {CT : Addr} (k_Told : C8.Mak P w K mg base 3 "Told" CT (sp_tinit CT) []) : C8.Cal P w K mg base 5 "_law_tells" (sp_ltells CB CT) [] := by
  refine C8.cal0 D b .nil sc__law_tells (fun vs H Q E h => ?_) (fun cdv A outer s H vs Q E hr h => ?_)
  · obtain ⟨_, _, _, _, _, _, rfl, _⟩ := h
    rfl
  · obtain ⟨b0, D, W, x, ds, ws, rfl, hb, hl, ok1, ok2⟩ := h
    refine ⟨_, (pss_one (ps_try_nams rfl rfl sc__law_tells.nd (fun W pn xe tk _ => (pss_cons (ps_expr (pe_mts m_Book_tell hr (by decide) tk (pv 0) (pa_cons (pv 1) (pa_cons (C8.pe_mk k_Told hr (by decide) (by rfl) (pa_cons (pe_lst (pa_cons pe_int pa_nil)) (pa_cons (pe_lst (pa_cons (pe_lst (pa_cons pe_int (pa_cons pe_int pa_nil))) pa_nil)) pa_nil))) pa_nil)))) (pss_one (ps_ret pe_non)))) (NamS.more (i := 2) ⟨by rfl, by decide, .inl x_Clashing.g⟩ rfl rfl (fun a oe cls d pn hz hf => (pss_one (ps_ret (pe_xf x_Clashing.xf x_Clashing.nof hz hf (pv 2))))) NamS.stop))), ?_⟩
    walk_at "rd"
    obtain ⟨dx, hi⟩ := hb.ins
    refine ⟨_, _, hi, by rw [← ofStr_S]; exact bf_no _ _ (by decide +kernel) (by decide +kernel), by decide, fun l1 hl1 => ⟨by decide, fun l2 hl2 => ⟨by decide, fun l3 hl3 => fun m dm hm hdm hne => ?_⟩⟩⟩
    have s1 := same_upd (o := .lst [V.int 1]) hl1
    have s2 := same_upd (o := .lst [V.int 0, V.int 0]) hl2
    have s3 := same_upd (o := .lst [V.ref l2]) hl3
    have hm2 : (upd (upd (upd (upd H l1 (.lst [V.int 1])) l2 (.lst [V.int 0, V.int 0])) l3 (.lst [V.ref l2])) dm (.own m)) m = none := by rw [upd_ne hne.symm]; exact hm
    have s4 := (same_upd (o := .own m) hdm).trans (same_upd (o := .ins CT dm []) hm2)
    have s123 := (s1.trans s2).trans s3
    refine ⟨m, dm, l1, l3, [l2], [[0, 0]], [1], rfl, upd_same, s4 _ _ (s3 _ _ (s2 _ _ upd_same)), s4 _ _ upd_same, ⟨rfl, fun i a r h1 h2 => ?_⟩, tok1, fun L H' b' tp fr => ⟨rfl, ?_⟩⟩
    · match i, h1, h2 with
      | 0, h1, h2 => cases h1; cases h2; exact s4 _ _ (s3 _ _ upd_same)
      | i + 1, h1, h2 => cases h1
    have s5 : Same _ H' := same_of_but hm ((But.of s4).trans b')
    have sA := s123.trans s5
    refine ⟨b0, D, W, ds, ws, x, m, rfl, hb.same sA, hl, fun d hd d2 H2 s6 hn2 hd2 => ?_, fun hn H2 b2 hb2 => ?_⟩
    · simp only [WE, wNamS, unb]
      refine ⟨true, cc, fun _ a ha => ?_, (fun q => nomatch q)⟩
      unfold tXf
      walk_at "rd"
      exact ⟨_, hd2, .str x, by rw [← ofStr_S]; simp, ok1 d hd _ (sA.trans s6)⟩
    · have hW : H' W = some (.dK (kvX ws)) := sA _ _ hb.ww
      have hLW : W ∉ L := fun hL => by
        rcases fr W hL with rfl | e
        · obtain ⟨dx2, o2, t2, rs2, e1, e2, _⟩ := tp
          rw [hW] at e2
          cases e2
        · have := s4 _ _ (s123 _ _ hb.ww)
          rw [e] at this
          cases this
      refine ok2 hn m L H2 (tp.but b2 hLW) (fun a ha => ?_) ((But.of sA).trans b2) hb2
      rcases fr a ha with rfl | e
      · exact s123.free hm
      · exact s123.free (s4.free e)

end
end
section
local macro_rules | `(tactic| walk_at "rd") => `(tactic| simp only [tSeq, tNext, tAsg, gName, tRet, tRetN, tIfS, tDrop, tVar, tC, tOp, tUn, tTest, tCB, tCons, tNil, tB, tAnd, tOr, tNot, tAndV, tOrV, tNotV, tIf, tCall, tTup, tLst, tSl, tPart, tNoPart, tM0, tM1, tBM, tChain, tBreak, tCont, tNever, tAug, ipI, tPar, tyV_str,
  tFor_eq, tLc_eq, tMkO, tYes, wipe, ofStr_S, S_cat, one_S, len_S, S_iff, S_cps, Int.zero_add, gNil, gCons, gTup, gSub, iRng1, iRng2, iList, iTup, iStr, rI0, rI, rU, rEq, rNe, rIxL, rIxT, rIxS, Dw.rLen, rListOf, rTupOf, rNotB, rIsB, rMulS, rIn, rCat, rAppend, rCatA, rEqD, rNeD, C8.rSlX, tDGet, Int.toNat_natCast, WE, iEnum, iRev, rSum, tFd, tFs, tMake, tMakeS, tMeth, Dw.tMethS, tCallS, rSlL, rSlA, tDGet2, tDIn, tDNotIn, rSetD, rAll, rKIn, tBM0, rPop, rExtend, tAddT, rAddT, rSetT0, Dw.rSetL, rSortT, StX.tStar, tDNewK, tDisp, tPairs, L2.start, cxOf_K, cxOf_w, cxOf_prog,
  List.map_cons, List.map_nil, List.length_cons, List.length_nil, List.replicate, List.cons_append, List.nil_append, Nat.reduceAdd, Nat.reduceSub, Nat.zero_add, List.append_nil,
  List.set_cons_zero, List.set_cons_succ, List.getElem?_cons_zero, List.getElem?_cons_succ, Option.some.injEq, V.int.injEq, V.bl.injEq, V.ref.injEq, V.str.injEq, V.ty.injEq, List.cons.injEq, and_true, true_and, reduceCtorEq, false_and, exists_false, or_false, false_or, exists_eq_left, exists_eq_left', exists_eq', sw_S, an_S, exists_and_left, exists_const, exists_eq, decide_eq_true_eq, Bool.false_eq_true, if_true, if_false, Bool.not_eq_true', decide_eq_false_iff_not, Bool.not_true, Bool.not_false, ite_not, scal, and_false])
section
variable {P : Program} {w : World} {K : PySem.W.Frag} {mg : Str → Option Value} {base : Heap}
def sD (z : Str) : PyData := .str z
theorem strs_dps {K : PySem.W.Frag} {H : Hp} : ∀ zs : List Str, DpAll K H (zs.map V.str) (zs.map sD)
  | [] => .nil
  | _ :: zs => .cons (.str _) (strs_dps zs)
theorem strs_lays : ∀ zs : List Str, (∀ z ∈ zs, PyData.strOk z = true) → PyData.canLayAll0 (zs.map sD) = true ∧ PyData.depthAll (zs.map sD) = 0
  | [], _ => by simp [PyData.canLayAll0, PyData.depthAll]
  | z :: zs, h => by
    obtain ⟨h1, h2⟩ := strs_lays zs fun y hy => h y (List.mem_cons_of_mem _ hy)
    rw [List.map_cons]
    refine ⟨?_, ?_⟩
    · show PyData.canLayAll0 (PyData.str z :: zs.map sD) = true
      simp only [PyData.canLayAll0, PyData.canLay0, h z List.mem_cons_self, h1, Bool.and_self]
    · show PyData.depthAll (PyData.str z :: zs.map sD) = 0
      simp only [PyData.depthAll, PyData.depth, h2, Nat.max_self]
theorem list_shaped {zs : List Str} (h : ∀ z ∈ zs, PyData.strOk z = true) : SeqAt.shaped (.list (zs.map sD)) = true := by
  obtain ⟨h1, h2⟩ := strs_lays zs h
  simp [SeqAt.shaped, PyData.canLay0, PyData.depth, h1, h2]
theorem tup_shaped {zs : List Str} (h : ∀ z ∈ zs, PyData.strOk z = true) : SeqAt.shaped (.tuple (zs.map sD)) = true := by
  obtain ⟨h1, h2⟩ := strs_lays zs h
  simp [SeqAt.shaped, PyData.canLay0, PyData.depth, h1, h2]
def fltS : Option Flt → List Str
  | none => []
  | some (.unk n) => [S (cs "unknown"), n]
  | some (.cla n) => [S (cs "clashing"), n]
  | some .mis => [S (cs "misused"), S (cs "count")]
def fltD : Option Flt → PyData
  | none => .none
  | some x => .tuple ((fltS (some x)).map sD)
theorem ValF.dp {K : PySem.W.Frag} {H : Hp} {v : V} {o : Option Flt} (h : ValF H v o) : Dp K H v (fltD o) := by
  cases o with
  | none => rw [show v = .non from h]; exact .non
  | some x => cases x <;> (obtain ⟨p, rfl, h2⟩ := h; exact .tup (SqT.of h2) (strs_dps [_, _]))
theorem flt_ok {o : Option Flt} (h : ∀ z ∈ fltS o, PyData.strOk z = true) : SeqAt.shaped (fltD o) = true := by
  cases o with
  | none => decide
  | some x => exact tup_shaped h
theorem kinds_ok : ∀ s ∈ ["unknown", "clashing", "misused", "count"], ∀ c ∈ cs s, c < 128 := by decide +kernel
theorem srt_sub {ks : List Str} : ∀ z ∈ srt ks, z ∈ ks := fun z hz => by
  unfold srt at hz
  split at hz
  · rename_i h
    exact h.choose_spec.1.mem_iff.mp hz
  · cases hz
theorem allN_ok : ∀ (f : Fm), f.Good → ∀ z ∈ allN f, PyData.strOk z = true
  | .pow y, h, z, hz => by rw [List.mem_singleton.mp hz]; exact ld_ok h
  | .word x y o, h, z, hz => by rw [List.mem_singleton.mp hz]; exact ld_ok h.2.1
  | .cmp k ps c, h, z, hz => by
    obtain ⟨p, hp, rfl⟩ := List.mem_map.mp hz
    obtain ⟨l, hl, e⟩ := h.1 p hp
    rw [e]
    exact ld_ok hl
  | .call g zs, h, z, hz => by
    obtain ⟨y, hy, rfl⟩ := List.mem_map.mp hz
    exact ld_ok (h.2.2.2 y hy)
  | .not a, h, z, hz => allN_ok a h z hz
  | .bin k a b, h, z, hz => by
    rcases List.mem_append.mp hz with hz | hz
    · exact allN_ok a h.1 z hz
    · exact allN_ok b h.2 z hz
  | .qf k y a, h, z, hz => by
    rcases List.mem_cons.mp hz with rfl | hz
    · exact ld_ok h.1
    · exact allN_ok a h.2 z hz
theorem fs_mem {α β : Type} {g : α → Option β} {L : List α} {y : β} (h : L.findSome? g = some y) : ∃ x ∈ L, g x = some y := by
  induction L with
  | nil => cases h
  | cons a L ih =>
    rw [List.findSome?_cons] at h
    cases e : g a with
    | none =>
      rw [e] at h
      obtain ⟨x, h1, h2⟩ := ih h
      exact ⟨x, List.mem_cons_of_mem _ h1, h2⟩
    | some z =>
      rw [e] at h
      exact ⟨a, List.mem_cons_self, e.trans h⟩
theorem two_ok {s : String} {n : Str} (hs : s ∈ ["unknown", "clashing", "misused", "count"]) (hn : PyData.strOk n = true) : ∀ z ∈ [S (cs s), n], PyData.strOk z = true := fun z hz => by
  simp only [List.mem_cons, List.not_mem_nil, or_false] at hz
  rcases hz with rfl | rfl
  · exact ok_S (kinds_ok s hs)
  · exact hn
theorem faultF_ok {ds : List Df} {ws : List (Str × Addr)} {f : Fm} (h : f.Good) : ∀ z ∈ fltS (faultF ds ws f), PyData.strOk z = true := by
  cases e : faultF ds ws f with
  | none => exact fun _ h => nomatch h
  | some y =>
    obtain ⟨g, hg, h2⟩ := fs_mem e
    have hgg := preF_good f h g hg
    cases g with
    | word x z o =>
      have h2 : (if (findW ws (S x)).isSome = true then none else some (Flt.unk (S x))) = some y := h2
      by_cases q : (findW ws (S x)).isSome = true
      · rw [if_pos q] at h2; cases h2
      · rw [if_neg q] at h2; cases h2; exact two_ok (by simp) (ud_ok hgg.1)
    | call x zs =>
      have h2 : (match findD ds (S x) with
        | none => some (Flt.unk (S x))
        | some d => if d.ps.length = zs.length then none else some Flt.mis) = some y := h2
      cases q : findD ds (S x) with
      | none => rw [q] at h2; cases h2; exact two_ok (by simp) (ld_ok hgg.1)
      | some d =>
        rw [q] at h2
        by_cases q2 : d.ps.length = zs.length
        · simp [q2] at h2
        · simp [q2] at h2
          rw [← h2]
          exact two_ok (by simp) (ok_S (kinds_ok "count" (by simp)))
    | _ => cases h2
theorem dueD_ok {ds : List Df} {ws : List (Str × Addr)} {n : Str} {ps : List Str} {f : Fm} (h : f.Good) (hn : PyData.strOk n = true) (hp : ∀ z ∈ ps, PyData.strOk z = true) : ∀ z ∈ fltS (dueD ds ws n ps f), PyData.strOk z = true := by
  cases e : findD ds n with
  | some d => rw [dueD_cla e]; exact two_ok (by simp) hn
  | none =>
    cases e2 : dupF ps with
    | some x =>
      rw [dueD_dup e e2]
      obtain ⟨i, hi, h2⟩ := fs_mem e2
      unfold dupAt at h2
      cases q : ps[i]? with
      | none => rw [q] at h2; cases h2
      | some y =>
        rw [q] at h2
        by_cases q2 : y ∈ ps.take i
        · simp [q2] at h2
          rw [← h2]
          exact two_ok (by simp) (hp y (List.mem_of_getElem? q))
        · simp [q2] at h2
    | none =>
      cases e3 : faultF ds ws f with
      | some x => rw [dueD_flt e e2 e3, ← e3]; exact faultF_ok h
      | none =>
        rw [dueD_unk e e2 e3]
        cases e4 : ((srt (setL (frN f []))).findSome? fun z => if z ∈ ps then none else some z) with
        | none => exact fun _ h => nomatch h
        | some y =>
          obtain ⟨x, hx, h2⟩ := fs_mem e4
          by_cases q : x ∈ ps
          · simp [q] at h2
          · simp [q] at h2
            have h3 : x ∈ allN f := fvL_all f x ((mem_frN f [] x).mp (setL_mem.mp (srt_sub x hx))).1
            rw [← h2]
            exact two_ok (by simp) (allN_ok f h x h3)

end
end
section
local macro_rules | `(tactic| walk_at "rd") => `(tactic| simp only [tSeq, tNext, tAsg, gName, tRet, tRetN, tIfS, tDrop, tVar, tC, tOp, tUn, tTest, tCB, tCons, tNil, tB, tAnd, tOr, tNot, tAndV, tOrV, tNotV, tIf, tCall, tTup, tLst, tSl, tPart, tNoPart, tM0, tM1, tBM, tChain, tBreak, tCont, tNever, tAug, ipI, tPar, tyV_str,
  tFor_eq, tLc_eq, tMkO, tYes, wipe, ofStr_S, S_cat, one_S, len_S, S_iff, S_cps, Int.zero_add, gNil, gCons, gTup, gSub, iRng1, iRng2, iList, iTup, iStr, rI0, rI, rU, rEq, rNe, rIxL, rIxT, rIxS, Dw.rLen, rListOf, rTupOf, rNotB, rIsB, rMulS, rIn, rCat, rAppend, rCatA, rEqD, rNeD, C8.rSlX, tDGet, Int.toNat_natCast, WE, iEnum, iRev, rSum, tFd, tFs, tMake, tMakeS, tMeth, Dw.tMethS, tCallS, rSlL, rSlA, tDGet2, tDIn, tDNotIn, rSetD, rAll, rKIn, tBM0, rPop, rExtend, tAddT, rAddT, rSetT0, Dw.rSetL, rSortT, StX.tStar, tDNewK, tDisp, tPairs, L2.start, cxOf_K, cxOf_w, cxOf_prog,
  List.map_cons, List.map_nil, List.length_cons, List.length_nil, List.replicate, List.cons_append, List.nil_append, Nat.reduceAdd, Nat.reduceSub, Nat.zero_add, List.append_nil,
  List.set_cons_zero, List.set_cons_succ, List.getElem?_cons_zero, List.getElem?_cons_succ, Option.some.injEq, V.int.injEq, V.bl.injEq, V.ref.injEq, V.str.injEq, V.ty.injEq, List.cons.injEq, and_true, true_and, reduceCtorEq, false_and, exists_false, or_false, false_or, exists_eq_left, exists_eq_left', exists_eq', sw_S, an_S, exists_and_left, exists_const, exists_eq, decide_eq_true_eq, Bool.false_eq_true, if_true, if_false, Bool.not_eq_true', decide_eq_false_iff_not, Bool.not_true, Bool.not_false, ite_not, scal, and_false])
section
variable {P : Program} {w : World} {K : PySem.W.Frag} {mg : Str → Option Value} {base : Heap}
/-- a told thing as the law makes it -/
def TdOk (CT : Addr) (H : Hp) (m : Addr) : Prop := ∃ dx o t, H m = some (.ins CT dx (tflds o t)) ∧ H o = some (.lst [.int 1])
theorem TdOk.same {CT : Addr} {H H' : Hp} {m : Addr} (h : TdOk CT H m) (s : Same H H') : TdOk CT H' m := by
  obtain ⟨dx, o, t, h1, h2⟩ := h
  exact ⟨dx, o, t, s _ _ h1, s _ _ h2⟩
theorem TdOk.but {CT : Addr} {H H' : Hp} {m x : Addr} {u : HO} (h : TdOk CT H m) (b : But x H H') (hx : H x = some u) (n1 : ∀ C dx fs, u ≠ .ins C dx fs) (n2 : u ≠ .lst [.int 1]) : TdOk CT H' m := by
  obtain ⟨dx, o, t, h1, h2⟩ := h
  exact ⟨dx, o, t, b _ _ (ne_of h1 hx (fun z => n1 _ _ _ z.symm)) h1, b _ _ (ne_of h2 hx n2.symm) h2⟩
/-- what stands behind each turn of the law -/
structure LI (CB CT : Addr) (H : Hp) (p q : Addr) (ns : List Int) (b D W wl c o : Addr) (ds : List Df) (ws : List (Str × Addr)) : Prop where
  pool : Pool H p q ns
  bk : BkAt CB H b D W ds ws
  wds : H wl = some (.lst ((ws.map (·.1)).map V.str))
  cnt : H c = some (.dK (kvC ds))
  ord : H o = some (.lst ((ds.map (·.name)).map V.str))
  nD : c ≠ D
  nW : c ≠ W
  nop : o ≠ p
  noq : o ≠ q
  now : o ≠ wl
  nwp : wl ≠ p
  nwq : wl ≠ q
  ne : ds ≠ []
  we : ws ≠ []
  w3 : ws.length ≤ 3
  td : ∀ x ∈ ws, TdOk CT H x.2
  wo : ∀ x ∈ ws, PyData.strOk x.1 = true
  do_ : ∀ d ∈ ds, PyData.strOk d.name = true
theorem LI.same {CB CT : Addr} {H H' : Hp} {p q : Addr} {ns : List Int} {b D W wl c o : Addr} {ds : List Df} {ws : List (Str × Addr)} (h : LI CB CT H p q ns b D W wl c o ds ws) (s : Same H H') : LI CB CT H' p q ns b D W wl c o ds ws :=
  ⟨h.pool.same s, h.bk.same s, s _ _ h.wds, s _ _ h.cnt, s _ _ h.ord, h.nD, h.nW, h.nop, h.noq, h.now, h.nwp, h.nwq, h.ne, h.we, h.w3, fun x hx => (h.td x hx).same s, h.wo, h.do_⟩
theorem LI.but {CB CT : Addr} {H H' : Hp} {p q : Addr} {ns : List Int} {b D W wl c o : Addr} {ds : List Df} {ws : List (Str × Addr)} (h : LI CB CT H p q ns b D W wl c o ds ws) (e : But p H H') (P : Pool H' p q ns) : LI CB CT H' p q ns b D W wl c o ds ws := by
  obtain ⟨_, _, x, k, hp, _⟩ := id h.pool
  exact ⟨P, h.bk.pool e h.pool, e _ _ h.nwp h.wds, e _ _ (ne_of h.cnt hp (by intro z; cases z)) h.cnt, e _ _ h.nop h.ord, h.nD, h.nW, h.nop, h.noq, h.now, h.nwp, h.nwq, h.ne, h.we, h.w3, fun x hx => (h.td x hx).but e hp (fun _ _ _ z => by cases z) (fun z => by cases z), h.wo, h.do_⟩
def wnm : List (List Nat) := [cs "T", cs "W2", cs "BIG"]
theorem map_nd : ∀ {L : List (List Nat)}, L.Nodup → (L.map S).Nodup
  | [], _ => List.nodup_nil
  | l :: L, h => by
    rw [List.nodup_cons] at h
    rw [List.map_cons, List.nodup_cons]
    refine ⟨fun hm => ?_, map_nd h.2⟩
    obtain ⟨y, hy, e⟩ := List.mem_map.mp hm
    exact h.1 (S_inj e ▸ hy)
theorem wnm_nd (t : Nat) : ((wnm.take t).map S).Nodup := map_nd (List.Nodup.sublist (List.take_sublist t wnm) (by decide +kernel))
theorem nd_take {L : List Str} (h : L.Nodup) {i : Nat} {z : Str} (hz : L[i]? = some z) : z ∉ L.take i := fun hm => by
  obtain ⟨hi, rfl⟩ := List.getElem?_eq_some_iff.mp hz
  obtain ⟨j, hj, e⟩ := List.mem_iff_getElem.mp hm
  rw [List.length_take] at hj
  rw [List.getElem_take] at e
  exact List.pairwise_iff_getElem.mp h j i (by omega) hi (by omega) e
theorem poolK {H H' : Hp} {p q x : Addr} {ns : List Int} {kv : List (Key × V)} (P : Pool H p q ns) (b : But x H H') (hx : H x = some (.dK kv)) : Pool H' p q ns := by
  obtain ⟨e1, e2, a, k, hp, e3⟩ := P
  exact ⟨e1, b _ _ (ne_of e2 hx (by intro z; cases z)) e2, a, k, b _ _ (ne_of hp hx (by intro z; cases z)) hp, e3⟩
theorem bnd {f : Fm} {U : List Str} (hg : f.Good) (hd : f.dep < 3) (ha : ∀ z ∈ allN f, z ∈ U) (hU : U.length < 64) : fsize f ≤ 100 ∧ (frN f []).length ≤ 3000 ∧ (setL (frN f [])).length < 64 ∧ (preF f).length ≤ 1000 := by
  have h1 := fsize_dep f
  have h2 := preF_len f
  have h3 : 2 ^ (f.dep + 1) ≤ 2 ^ 3 := Nat.pow_le_pow_right (by decide) (by omega)
  have h4 := frN_sz f hg []
  have h5 := fvL_len f ha
  have h6 := (fv_perm f).length_eq
  refine ⟨by omega, by omega, by omega, by omega⟩
theorem dueD_none {ds : List Df} {ws : List (Str × Addr)} {n : Str} {ps : List Str} {f : Fm} (h : findD ds n = none) (h2 : dupF ps = none) (h3 : faultF ds ws f = none) (h4 : ∀ z ∈ fvL f, z ∈ ps) : dueD ds ws n ps f = none := by
  rw [dueD_unk h h2 h3]
  have : ((srt (setL (frN f []))).findSome? fun z => if z ∈ ps then none else some z) = none := by
    rw [List.findSome?_eq_none_iff]
    intro z hz
    rw [if_pos (h4 z ((mem_frN f [] z).mp (setL_mem.mp (srt_sub z hz))).1)]
  rw [this]
  rfl
theorem gxyz : ∀ s ∈ ["x", "y", "z", "near", "f"], (∃ c r, cs s = c :: r ∧ c ∈ LOW) ∧ (∀ c ∈ cs s, c ∈ LOW ++ DIG) ∧ (cs s).length ≤ 12 ∧ cs s ∉ RES := by decide +kernel
theorem gn {s : String} (h : s ∈ ["x", "y", "z", "near", "f"]) : GName (cs s) := by
  obtain ⟨w1, w2, w3, w4⟩ := gxyz s h
  exact ⟨w1, w2, w3, w4⟩
def fNear (r : Int) : Fm := .cmp true [(S (cs "x"), 1), (S (cs "y"), -1)] r
def fF : Fm := .call (cs "near") [cs "z", cs "z"]
theorem xy_ne : ¬ S (cs "x") = S (cs "y") := fun e => absurd (S_inj e) (by decide +kernel)
theorem nf_ne : ¬ S (cs "near") = S (cs "f") := fun e => absurd (S_inj e) (by decide +kernel)
theorem fNear_good {r : Int} (h0 : 0 ≤ r) (h1 : r < 9) : (fNear r).Good := by
  refine ⟨fun p hp => ?_, by decide +kernel, ?_, fun p hp => ?_, ?_, by decide⟩
  · rcases List.mem_cons.mp hp with rfl | hp
    · exact ⟨_, gn (by simp), rfl⟩
    · rw [List.mem_singleton.mp hp]; exact ⟨_, gn (by simp), rfl⟩
  · show [S (cs "x"), S (cs "y")].Nodup
    rw [List.nodup_cons]
    exact ⟨fun h => xy_ne (List.mem_singleton.mp h), by simp⟩
  · rcases List.mem_cons.mp hp with rfl | hp
    · exact ⟨by decide, by decide⟩
    · rw [List.mem_singleton.mp hp]; exact ⟨by decide, by decide⟩
  · unfold okC
    rw [decide_eq_true (by omega), decide_eq_true (by omega)]
    rfl
theorem fF_good : fF.Good := ⟨gn (by simp), by simp, by decide, fun z hz => by
  simp only [List.mem_cons, List.not_mem_nil, or_false, or_self] at hz
  rw [hz]; exact gn (by simp)⟩
theorem wnm_ok : ∀ z ∈ wnm.map S, PyData.strOk z = true := fun z hz => by
  obtain ⟨l, hl, rfl⟩ := List.mem_map.mp hz
  exact ok_S ((by decide +kernel : ∀ l ∈ wnm, ∀ c ∈ l, c < 128) l hl)
def spLaw (K : PySem.W.Frag) : Sp := fun vs H Q _ => ∃ (a : Addr) (ns : List Int), vs = [.ref a] ∧ SqL K H a (ns.map V.int) ∧ ns.length ≤ 63 ∧ ∀ H', Q (.bl true) H'
theorem f_law {f : Addr} {fd : FuncData} (D : C8.Def K mg "law" s_law f fd) (c__law_pool : C8.Cal P w K mg base 1 "_law_pool" (sp_pool K) []) (c__law_take : C8.Cal P w K mg base 2 "_law_take" sp_take []) (c__law_name : C8.Cal P w K mg base 3 "_law_name" sp_name []) (c__law_formula : C8.Cal P w K mg base 6 "_law_formula" (SpF 3) []) (c__law_free : C8.Cal P w K mg base 5 "_law_free" (SpFr 3) []) (c__law_fault : C8.Cal P w K mg base 5 "_law_fault" (SpFt 3) []) (c__law_due : C8.Cal P w K mg base 6 "_law_due" sp_ldue []) {CB CT CCl CUn CMis : Addr} (c_B : Cls K CB) (c_T : Cls K CT) (t_outputs : NoAttr K CT "outputs") (k_Book : C8.Mak P w K mg base 1 "Book" CB (sp_binit CB) []) (c__law_told : C8.Cal P w K mg base 7 "_law_told" (sp_ltold CB CCl CUn CMis) []) (c__law_tells : C8.Cal P w K mg base 5 "_law_tells" (sp_ltells CB CT) []) (m_Book_define : MetX P w K mg base 5 CB "define" (sp_define CB CCl CUn CMis)) (m_Book_parameters : MetX P w K mg base 3 CB "parameters" (sp_bparameters CB CUn)) (m_Book_formula : MetX P w K mg base 3 CB "formula" (sp_bformula CB CUn)) (m_Book_told : MetX P w K mg base 3 CB "told" (sp_btold CB CUn)) (m_Book_definitions : C8.Met P w K mg base 1 CB "definitions" (sp_bdefinitions CB) []) (m_Book_words : C8.Met P w K mg base 1 CB "words" (sp_bwords CB) []) (z_range : mg "range" = none) (z_len : mg "len" = none) (z_tuple : mg "tuple" = none) : FnOk P w K mg base C8.CX0 8 f fd ["script"] (spLaw K) := by
  refine C8.fn0 D.fn sc_law (fun vs H Q E h => ?_) (fun cdv A outer s H vs Q E hr h => ?_)
  · obtain ⟨_, _, rfl, _⟩ := h
    rfl
  · obtain ⟨a0, ns, rfl, hS, hlen, ok⟩ := h
    refine ⟨_, (C8.pss_cut (ps_set (i := 1) sc_law.nd rfl (by first | exact Or.inl rfl | exact Or.inr rfl) (C8.pe_c c__law_pool hr (by decide) (by rfl) (pa_cons (pv 0) pa_nil))) (C8.pss_cut (ps_set (i := 2) sc_law.nd rfl (by first | exact Or.inl rfl | exact Or.inr rfl) (pe_mk0 k_Book hr (by decide) (by rfl))) (C8.pss_cut (ps_set (i := 3) sc_law.nd rfl (by first | exact Or.inl rfl | exact Or.inr rfl) (pe_slice (slL K) (pe_lst (pa_cons pe_str (pa_cons pe_str (pa_cons pe_str pa_nil)))) po_none (po_some (pe_op op_add pe_int (C8.pe_c c__law_take hr (by decide) (by rfl) (pa_cons (pv 1) (pa_cons pe_int pa_nil))))))) (C8.pss_cut (ps_for PassesOwn.never rfl (piL K (pv 3)) (pg_name (i := 4) sc_law.nd rfl (by first | exact Or.inl rfl | exact Or.inr rfl)) (pss_one (ps_if (pt_cmpR (op_notN) (C8.pe_c c__law_tells hr (by decide) (by rfl) (pa_cons (pv 2) (pa_cons (pv 4) pa_nil))) pe_non (nomark _)) (pss_one (ps_ret pe_bl)) pss_nil))) (C8.pss_cut (ps_expr (pe_mtx m_Book_define hr (by decide) passF (pv 2) (pa_cons pe_str (pa_cons (pe_tup (pa_cons pe_str (pa_cons pe_str pa_nil))) (pa_cons (pe_tup (pa_cons pe_str (pa_cons (pe_tup (pa_cons (pe_tup (pa_cons (pe_tup (pa_cons pe_str (pa_cons pe_int pa_nil))) (pa_cons (pe_tup (pa_cons pe_str (pa_cons (pe_un un_neg pe_int) pa_nil))) pa_nil))) (pa_cons (C8.pe_c c__law_take hr (by decide) (by rfl) (pa_cons (pv 1) (pa_cons pe_int pa_nil))) pa_nil))) pa_nil))) pa_nil))))) (C8.pss_cut (ps_expr (pe_mtx m_Book_define hr (by decide) passF (pv 2) (pa_cons pe_str (pa_cons (pe_tup (pa_cons pe_str pa_nil)) (pa_cons (pe_tup (pa_cons pe_str (pa_cons pe_str (pa_cons (pe_tup (pa_cons pe_str (pa_cons pe_str pa_nil))) pa_nil)))) pa_nil))))) (C8.pss_cut (ps_set (i := 5) sc_law.nd rfl (by first | exact Or.inl rfl | exact Or.inr rfl) (pe_disp (pps_cons pe_str pe_int (pps_cons pe_str pe_int pps_nil)) (by rfl) (by rfl) (by simp) (by decide))) (C8.pss_cut (ps_set (i := 6) sc_law.nd rfl (by first | exact Or.inl rfl | exact Or.inr rfl) (pe_lst (pa_cons pe_str (pa_cons pe_str pa_nil)))) (C8.pss_cut (ps_for PassesOwn.never rfl (pi_range1 (by rfl) z_range (pa_cons (C8.pe_c c__law_take hr (by decide) (by rfl) (pa_cons (pv 1) (pa_cons pe_int pa_nil))) pa_nil)) (pg_name (i := 7) sc_law.nd rfl (by first | exact Or.inl rfl | exact Or.inr rfl)) (C8.pss_cut (ps_set (i := 8) sc_law.nd rfl (by first | exact Or.inl rfl | exact Or.inr rfl) (pe_lc (own := [("j", 13)]) (g := (gName 13)) (tt := tYes) rfl sc_law.nd (pi_range1 (by rfl) z_range (pa_cons pe_int pa_nil)) (blkOk_by (N := N_law) (sc := C8.fnScope s_law) (by decide +kernel)) (fun _ _ _ _ _ => (pg_name (i := 13) sc_law.nd rfl (by first | exact Or.inl rfl | exact Or.inr rfl))) (fun _ _ _ _ _ => pts_nil) (fun _ _ _ _ _ => (C8.pe_c c__law_name hr (by decide) (by rfl) (pa_cons (pv 1) pa_nil))))) (C8.pss_cut (ps_set (i := 9) sc_law.nd rfl (by first | exact Or.inl rfl | exact Or.inr rfl) (C8.pe_c c__law_formula hr (by decide) (by rfl) (pa_cons (pv 1) (pa_cons (pv 8) (pa_cons pe_int pa_nil))))) (C8.pss_cut (ps_set (i := 10) sc_law.nd rfl (by first | exact Or.inl rfl | exact Or.inr rfl) (C8.pe_c c__law_free hr (by decide) (by rfl) (pa_cons (pv 9) pa_nil))) (C8.pss_cut (ps_if (pt_cmpR (op_eq) (C8.pe_c c__law_take hr (by decide) (by rfl) (pa_cons (pv 1) (pa_cons pe_int pa_nil))) pe_int (nomark _)) (pss_one (ps_setLc (i := 10) (own := [("j", 13)]) (g := (gName 13)) (tt := tYes) rfl sc_law.nd rfl rfl (sw_true rfl rfl rfl (by decide +kernel)) (pi_range1 (by rfl) z_range (pa_cons (C8.pe_c c__law_take hr (by decide) (by rfl) (pa_cons (pv 1) (pa_cons pe_int pa_nil))) pa_nil)) (blkOk_by (N := N_law) (sc := C8.fnScope s_law) (by decide +kernel)) (fun _ _ _ _ _ => (pg_name (i := 13) sc_law.nd rfl (by first | exact Or.inl rfl | exact Or.inr rfl))) (fun _ _ _ _ _ => pts_nil) (fun _ _ _ _ _ => (pe_ix (ixL K) (pv 8) (C8.pe_c c__law_take hr (by decide) (by rfl) (pa_cons (pv 1) (pa_cons pe_int pa_nil))) (fun _ _ => rfl))))) pss_nil) (C8.pss_cut (ps_set (i := 11) sc_law.nd rfl (by first | exact Or.inl rfl | exact Or.inr rfl) (pe_ix (ixL K) (pe_lst (pa_cons (C8.pe_c c__law_name hr (by decide) (by rfl) (pa_cons (pv 1) pa_nil)) (pa_cons pe_str (pa_cons pe_str (pa_cons pe_str (pa_cons (C8.pe_c c__law_name hr (by decide) (by rfl) (pa_cons (pv 1) pa_nil)) pa_nil)))))) (C8.pe_c c__law_take hr (by decide) (by rfl) (pa_cons (pv 1) (pa_cons pe_int pa_nil))) (fun _ _ => rfl))) (C8.pss_cut (ps_if (pt_cmpR (neDK K (hu64 hr)) (C8.pe_c c__law_told hr (by decide) (by rfl) (pa_cons (pv 2) (pa_cons (pv 11) (pa_cons pe_non (pa_cons (pv 9) pa_nil))))) (C8.pe_c c__law_fault hr (by decide) (by rfl) (pa_cons (pv 5) (pa_cons (pv 3) (pa_cons (pv 9) pa_nil)))) (nomark _)) (pss_one (ps_ret pe_bl)) pss_nil) (C8.pss_cut (ps_set (i := 12) sc_law.nd rfl (by first | exact Or.inl rfl | exact Or.inr rfl) (C8.pe_c c__law_due hr (by decide) (by rfl) (pa_cons (pv 5) (pa_cons (pv 3) (pa_cons (pv 11) (pa_cons (pv 10) (pa_cons (pv 9) pa_nil))))))) (C8.pss_cut (ps_if (pt_cmpR (neDK K (hu64 hr)) (C8.pe_c c__law_told hr (by decide) (by rfl) (pa_cons (pv 2) (pa_cons (pv 11) (pa_cons (pe_callTy (tupOf K) (by rfl) z_tuple (by decide +kernel) (pa_cons (pv 10) pa_nil)) (pa_cons (pv 9) pa_nil))))) (pv 12) (nomark _)) (pss_one (ps_ret pe_bl)) pss_nil) (C8.pss_cut (ps_if (pt_cmpR (op_isN) (pv 12) pe_non (nomark _)) (C8.pss_cut (ps_asg (pe_callB (lenS K) (by rfl) z_len PySem.boot_len (pa_cons (pv 10) pa_nil)) (pg_sub (pv 5) (pv 11) (set_dict (hu1 hr)))) (C8.pss_cut (ps_expr (pe_bm PySem.F.plainAttrs_list PySem.F.slot_list_append PySem.F.type_list_append mt_append (pv 6) (pa_cons (pv 11) pa_nil))) (pss_one (ps_if (PW.pt (pw_or (pt_cmpR (neDK K (hu64 hr)) (pe_mtx m_Book_parameters hr (by decide) passF (pv 2) (pa_cons (pv 11) pa_nil)) (pe_callTy (tupOf K) (by rfl) z_tuple (by decide +kernel) (pa_cons (pv 10) pa_nil)) (nomark _)) (pw_or1 (pt_cmpR (neDK K (hu64 hr)) (pe_mtx m_Book_formula hr (by decide) passF (pv 2) (pa_cons (pv 11) pa_nil)) (pv 9) (nomark _))))) (pss_one (ps_ret pe_bl)) pss_nil)))) pss_nil) (pss_one (ps_if (PW.pt (pw_or (pt_cmpR (neDK K (hu64 hr)) (C8.pe_mt0 m_Book_definitions hr (by decide) (pv 2)) (pv 6) (nomark _)) (pw_or1 (pt_cmpR (neDK K (hu64 hr)) (C8.pe_mt0 m_Book_words hr (by decide) (pv 2)) (pv 3) (nomark _))))) (pss_one (ps_ret pe_bl)) pss_nil)))))))))))) (pss_one (ps_ret (pe_and (pe_cmpR (op_eq) (C8.pe_c c__law_tells hr (by decide) (by rfl) (pa_cons (pv 2) (pa_cons (pe_ix (ixL K) (pv 3) (pe_un un_neg pe_int) (fun _ _ => rfl)) pa_nil))) (pe_ix (ixL K) (pv 3) (pe_un un_neg pe_int) (fun _ _ => rfl)) (nomark _)) (pe_one (pe_cmpR (eqDK K (hu64 hr)) (pe_fd K (pe_mtx m_Book_told hr (by decide) passF (pv 2) (pa_cons (pe_ix (ixL K) (pv 3) pe_int (fun _ _ => rfl)) pa_nil)) (by rfl)) (pe_lst (pa_cons pe_int pa_nil)) (nomark _))))))))))))))), ?_⟩
    refine cut_by (fun σ' H' => ∃ p q, [some (V.ref a0), some (V.ref p), none, none, none, none, none, none, none, none, none, none, none, none] = σ' ∧ Pool H' p q ns) (fun N hN => ?_) ?_
    · walk_at "rd"
      exact ⟨a0, ns, rfl, hS, fun p q H1 sm1 hp0 hq0 hP1 => hN _ _ ⟨p, q, rfl, hP1⟩⟩
    rintro σ' H1 ⟨p, q, rfl, hP1⟩
    refine cut_by (fun σ' H' => ∃ b D W, [some (V.ref a0), some (V.ref p), some (V.ref b), none, none, none, none, none, none, none, none, none, none, none] = σ' ∧ Pool H' p q ns ∧ BkAt CB H' b D W [] []) (fun N hN => ?_) ?_
    · walk_at "rd"
      intro b dx hb hdx hne
      have hb2 : (upd H1 dx (.own b)) b = none := by rw [upd_ne hne.symm]; exact hb
      have s1 : Same H1 (upd (upd H1 dx (.own b)) b (.ins CB dx [])) := (same_upd hdx).trans (same_upd hb2)
      refine ⟨b, dx, rfl, upd_same, fun D W H2 b2 hD hW hbk => ⟨rfl, ?_⟩⟩
      exact hN _ _ ⟨b, D, W, rfl, hP1.same (same_of_but hb ((But.of s1).trans b2)), hbk⟩
    rintro σ' H2 ⟨b, D, W, rfl, hP2, hbk2⟩
    refine cut_by (fun σ' H' => ∃ (wl : Addr) (t : Nat), [some (V.ref a0), some (V.ref p), some (V.ref b), some (V.ref wl), none, none, none, none, none, none, none, none, none, none] = σ' ∧ 1 ≤ t ∧ Pool H' p q ns ∧ BkAt CB H' b D W [] [] ∧ H' wl = some (.lst (((wnm.take t).map S).map V.str)) ∧ wl ≠ p ∧ wl ≠ q) (fun N hN => ?_) ?_
    · walk_at "rd"
      refine ⟨by decide, fun l1 hl1 => ⟨p, q, ns, 3, rfl, hP2.same (same_upd hl1), by decide, by decide, fun r H3 r0 r1 hB3 hP3 => ⟨r, rfl, _, SqL.of (hB3 _ _ (hP2.ne hl1) upd_same), fun l2 hl2 => ?_⟩⟩⟩
      obtain ⟨t, ht⟩ : ∃ t : Nat, 1 + r = (t : Int) := ⟨(1 + r).toNat, by omega⟩
      rw [ht, cutV_to (by show t ≤ 3; omega)]
      refine hN _ _ ⟨l2, t, rfl, by omega, hP3.same (same_upd hl2), ((hbk2.same (same_upd hl1)).pool hB3 (hP2.same (same_upd hl1))).same (same_upd hl2), ?_, hP3.ne hl2, hP3.neq hl2⟩
      rw [upd_same, List.map_take, List.map_take]
      rfl
    rintro σ' H3 ⟨wl, t, rfl, ht1, hP3, hbk3, hwl3, nwp, nwq⟩
    refine cut_by (fun σ' H' => ∃ (ws : List (Str × Addr)) (u4 : Option V), [some (V.ref a0), some (V.ref p), some (V.ref b), some (V.ref wl), u4, none, none, none, none, none, none, none, none, none] = σ' ∧ Pool H' p q ns ∧ BkAt CB H' b D W [] ws ∧ H' wl = some (.lst ((ws.map (·.1)).map V.str)) ∧ ws ≠ [] ∧ ws.length ≤ 3 ∧ (∀ x ∈ ws, TdOk CT H' x.2) ∧ (∀ x ∈ ws, PyData.strOk x.1 = true)) (fun N hN => ?_) ?_
    · walk_at "rd"
      refine ⟨⟨_, SqL.of hwl3⟩, for_listN (xs := ((wnm.take t).map S).map V.str) (fun i σ H5 => ∃ (ws : List (Str × Addr)) (u4 : Option V), [some (V.ref a0), some (V.ref p), some (V.ref b), some (V.ref wl), u4, none, none, none, none, none, none, none, none, none] = σ ∧ Pool H5 p q ns ∧ BkAt CB H5 b D W [] ws ∧ H5 wl = some (.lst (((wnm.take t).map S).map V.str)) ∧ ws.map (·.1) = ((wnm.take t).map S).take i ∧ (∀ x ∈ ws, TdOk CT H5 x.2)) ?_ ?_ ?_ ?_⟩
      · exact ⟨[], none, rfl, hP3, hbk3, hwl3, rfl, (fun _ h => nomatch h)⟩
      · rintro i σ H5 _ ⟨_, _, _, _, _, h5, _⟩
        exact SqL.of h5
      · rintro i x σ H5 N2 hx ⟨ws, u4, rfl, hP5, hb5, h5, hws, htd⟩ hN2
        rw [List.getElem?_map] at hx
        obtain ⟨z, hz, rfl⟩ := Option.map_eq_some_iff.mp hx
        have hni : z ∉ ws.map (·.1) := by rw [hws]; exact nd_take (wnm_nd t) hz
        have hwl : ws.length ≤ 3 := by
          have := congrArg List.length hws
          rw [List.length_map, List.length_take, List.length_map, List.length_take] at this
          have h3 : wnm.length = 3 := rfl
          omega
        walk_at "rd"
        refine ⟨b, D, W, z, [], ws, rfl, hb5, by omega, fun d hd => absurd hd (by rw [findW_none.mpr hni]; simp), fun _ m L H6 tp fr b6 hb6 => ?_⟩
        have hP6 : Pool H6 p q ns := poolK hP5 b6 hb5.ww
        have nlW : wl ≠ W := ne_of h5 hb5.ww (by intro z; cases z)
        show (if V.non = V.non then _ else _)
        rw [if_pos rfl]
        refine hN2 _ _ ⟨ws ++ [(z, m)], _, rfl, hP6, hb6, b6 _ _ nlW h5, ?_, fun x hx => ?_⟩
        · rw [List.map_append, hws, List.take_add_one, hz]
          rfl
        · rcases List.mem_append.mp hx with hx | hx
          · exact (htd x hx).but b6 hb5.ww (fun _ _ _ z => by cases z) (fun z => by cases z)
          · rw [List.mem_singleton.mp hx]
            obtain ⟨dx, o, t2, rs, _, h1, h2, _⟩ := tp
            exact ⟨dx, o, t2, h1, h2⟩
      · rintro σ H5 ⟨ws, u4, rfl, hP5, hb5, h5, hws, htd⟩
        rw [List.length_map, List.take_length] at hws
        refine hN _ _ ⟨ws, u4, rfl, hP5, hb5, by rw [hws]; exact h5, fun e => ?_, ?_, htd, fun x hx => wnm_ok _ ?_⟩
        · rw [e] at hws
          have := congrArg List.length hws
          rw [List.length_map, List.length_map, List.length_take] at this
          have h3 : wnm.length = 3 := rfl
          simp only [List.length_nil] at this
          omega
        · have := congrArg List.length hws
          rw [List.length_map, List.length_map, List.length_take] at this
          have h3 : wnm.length = 3 := rfl
          omega
        · have : x.1 ∈ (wnm.take t).map S := by rw [← hws]; exact List.mem_map.mpr ⟨x, hx, rfl⟩
          rw [List.map_take] at this
          exact List.mem_of_mem_take this
    rintro σ' H4 ⟨ws, u4, rfl, hP4, hbk4, hwl4, hwe, hw3, htd4, hwo⟩
    refine cut_by (fun σ' H' => ∃ (d1 : Df), [some (V.ref a0), some (V.ref p), some (V.ref b), some (V.ref wl), u4, none, none, none, none, none, none, none, none, none] = σ' ∧ Pool H' p q ns ∧ BkAt CB H' b D W [d1] ws ∧ d1.name = S (cs "near") ∧ d1.ps.length = 2 ∧ H' wl = some (.lst ((ws.map (·.1)).map V.str)) ∧ (∀ x ∈ ws, TdOk CT H' x.2)) (fun N hN => ?_) ?_
    · walk_at "rd"
      obtain ⟨dx, hi⟩ := hbk4.ins
      refine ⟨_, _, hi, by rw [← ofStr_S]; exact bf_no _ _ (by decide +kernel) (by decide +kernel), by decide, fun l1 h1 => ⟨by decide, fun l2 h2 => ⟨by decide, fun l3 h3 => ⟨by decide, fun l4 h4 => ?_⟩⟩⟩⟩
      have s1 := same_upd (o := .tup [V.str (S (cs "x")), V.str (S (cs "y"))]) h1
      have s2 := same_upd (o := .tup [V.str (S (cs "x")), V.int 1]) h2
      have s3 := same_upd (o := .tup [V.str (S (cs "y")), V.int (-1)]) h3
      have s4 := same_upd (o := .tup [V.ref l2, V.ref l3]) h4
      have sA := ((s1.trans s2).trans s3).trans s4
      refine ⟨p, q, ns, 9, rfl, hP4.same sA, by decide, by decide, fun r H5 r0 r1 hB5 hP5 => ⟨by decide, fun l5 h5 => ⟨by decide, fun l6 h6 => ?_⟩⟩⟩
      have s5 := same_upd (o := .tup [V.ref l4, V.int r]) h5
      have s6 := same_upd (o := .tup [V.str (S (cs "eq")), V.ref l5]) h6
      have tB : Tups _ H5 := Tups.pool (hP4.same sA) hB5
      have s56 := s5.trans s6
      have bk6 := ((hbk4.same sA).pool hB5 (hP4.same sA)).same s56
      obtain ⟨H6, hH6⟩ : ∃ H6, H6 = upd (upd H5 l5 (.tup [V.ref l4, V.int r])) l6 (.tup [V.str (S (cs "eq")), V.ref l5]) := ⟨_, rfl⟩
      have e6 : H6 l6 = some (.tup [V.str (S (cs "eq")), V.ref l5]) := by rw [hH6, upd_same]
      have e5 : H6 l5 = some (.tup [V.ref l4, V.int r]) := by rw [hH6]; exact s6 _ _ upd_same
      rw [← hH6] at bk6 s56 ⊢
      have e4 : H6 l4 = some (.tup [V.ref l2, V.ref l3]) := s56 _ _ (tB _ _ upd_same)
      have e3 : H6 l3 = some (.tup [V.str (S (cs "y")), V.int (-1)]) := s56 _ _ (tB _ _ (s4 _ _ upd_same))
      have e2 : H6 l2 = some (.tup [V.str (S (cs "x")), V.int 1]) := s56 _ _ (tB _ _ (s4 _ _ (s3 _ _ upd_same)))
      have e1 : H6 l1 = some (.tup [V.str (S (cs "x")), V.str (S (cs "y"))]) := s56 _ _ (tB _ _ (s4 _ _ (s3 _ _ (s2 _ _ upd_same))))
      have hfm : FmAt H6 l6 (fNear r) := ⟨l5, e6, l4, [l2, l3], e5, e4, e2, e3, trivial⟩
      have hg := fNear_good r0 r1
      obtain ⟨g1, g2, g3, g4⟩ := bnd hg (show 0 < 3 by decide) (fun z hz => hz) (show 2 < 64 by decide)
      refine ⟨b, D, W, [], ws, _, l1, l6, [S (cs "x"), S (cs "y")], fNear r, rfl, bk6, e1, hfm, hg, g1, g2, g3, g4, by decide, by decide, ?_⟩
      rw [dueD_none rfl (by decide +kernel) rfl (fun z hz => by simpa [fvL, addU_mem, ownL, keys, fNear] using hz)]
      intro t7 H7 ht7 b7 bk7
      have hP6 := (hP5.same s56)
      have tA : ∀ x ∈ ws, TdOk CT H6 x.2 := fun x hx => by
        obtain ⟨_, _, y, k, hp, _⟩ := hP4.same sA
        exact (((htd4 x hx).same sA).but hB5 hp (fun _ _ _ z => by cases z) (fun z => by cases z)).same s56
      have hwl6 := s56 _ _ (hB5 _ _ nwp (sA _ _ hwl4))
      exact hN _ _ ⟨_, rfl, poolK hP6 b7 bk6.dd, bk7, rfl, rfl, b7 _ _ (ne_of hwl6 bk6.dd (by intro z; cases z)) hwl6, fun x hx => (tA x hx).but b7 bk6.dd (fun _ _ _ z => by cases z) (fun z => by cases z)⟩
    rintro σ' H5 ⟨d1, rfl, hP5, hbk5, hd1n, hd1p, hwl5, htd5⟩
    refine cut_by (fun σ' H' => ∃ (d2 : Df), [some (V.ref a0), some (V.ref p), some (V.ref b), some (V.ref wl), u4, none, none, none, none, none, none, none, none, none] = σ' ∧ Pool H' p q ns ∧ BkAt CB H' b D W [d1, d2] ws ∧ d2.name = S (cs "f") ∧ d2.ps.length = 1 ∧ H' wl = some (.lst ((ws.map (·.1)).map V.str)) ∧ (∀ x ∈ ws, TdOk CT H' x.2)) (fun N hN => ?_) ?_
    · walk_at "rd"
      obtain ⟨dx, hi⟩ := hbk5.ins
      refine ⟨_, _, hi, by rw [← ofStr_S]; exact bf_no _ _ (by decide +kernel) (by decide +kernel), by decide, fun l1 h1 => ⟨by decide, fun l2 h2 => ⟨by decide, fun l3 h3 => ?_⟩⟩⟩
      have s1 := same_upd (o := .tup [V.str (S (cs "z"))]) h1
      have s2 := same_upd (o := .tup [V.str (S (cs "z")), V.str (S (cs "z"))]) h2
      have s3 := same_upd (o := .tup [V.str (S (cs "call")), V.str (S (cs "near")), V.ref l2]) h3
      have sA := (s1.trans s2).trans s3
      have bk6 := hbk5.same sA
      have hP6 := hP5.same sA
      obtain ⟨H6, hH6⟩ : ∃ H6, H6 = (upd (upd (upd H5 l1 (.tup [V.str (S (cs "z"))])) l2 (.tup [V.str (S (cs "z")), V.str (S (cs "z"))])) l3 (.tup [V.str (S (cs "call")), V.str (S (cs "near")), V.ref l2])) := ⟨_, rfl⟩
      have e3 : H6 l3 = some (.tup [V.str (S (cs "call")), V.str (S (cs "near")), V.ref l2]) := by rw [hH6, upd_same]
      have e2 : H6 l2 = some (.tup [V.str (S (cs "z")), V.str (S (cs "z"))]) := by rw [hH6]; exact s3 _ _ upd_same
      have e1 : H6 l1 = some (.tup [V.str (S (cs "z"))]) := by rw [hH6]; exact s3 _ _ (s2 _ _ upd_same)
      rw [← hH6] at bk6 hP6 sA ⊢
      obtain ⟨g1, g2, g3, g4⟩ := bnd fF_good (show 0 < 3 by decide) (fun z hz => hz) (show 2 < 64 by decide)
      refine ⟨b, D, W, [d1], ws, _, l1, l3, [S (cs "z")], fF, rfl, bk6, e1, ⟨l2, e3, e2⟩, fF_good, g1, g2, g3, g4, by decide, show 1 < 100 by decide, ?_⟩
      have f1 : findD [d1] (S (cs "near")) = some d1 := by
        unfold findD
        rw [List.find?_cons, decide_eq_true hd1n]
      have f2 : findD [d1] (S (cs "f")) = none := findD_none.mpr fun h => nf_ne (by rw [List.map_cons, List.map_nil, List.mem_singleton, hd1n] at h; exact h.symm)
      have f3 : faultF [d1] ws fF = none := by
        have : nfault [d1] ws fF = none := by
          show (match findD [d1] (S (cs "near")) with
            | none => some (Flt.unk (S (cs "near")))
            | some d => if d.ps.length = 2 then none else some Flt.mis) = none
          rw [f1]
          exact if_pos hd1p
        rw [faultF_eq, this]
        rfl
      rw [dueD_none f2 (by decide +kernel) f3 (fun z hz => by simpa [fvL, addU_mem, ownL, fF] using hz)]
      intro t7 H7 ht7 b7 bk7
      have hwl6 := sA _ _ hwl5
      exact hN _ _ ⟨_, rfl, poolK hP6 b7 bk6.dd, bk7, rfl, rfl, b7 _ _ (ne_of hwl6 bk6.dd (by intro z; cases z)) hwl6, fun x hx => ((htd5 x hx).same sA).but b7 bk6.dd (fun _ _ _ z => by cases z) (fun z => by cases z)⟩
    rintro σ' H6 ⟨d2, rfl, hP6, hbk6, hd2n, hd2p, hwl6, htd6⟩
    refine cut_by (fun σ' H' => ∃ (c : Addr), [some (V.ref a0), some (V.ref p), some (V.ref b), some (V.ref wl), u4, some (V.ref c), none, none, none, none, none, none, none, none] = σ' ∧ Same H6 H' ∧ H6 c = none ∧ H' c = some (.dK (kvC [d1, d2]))) (fun N hN => ?_) ?_
    · walk_at "rd"
      intro c hc
      refine ⟨upd_same, [(.inr (S (cs "near")), .int 2), (.inr (S (cs "f")), .int 1)], rfl, by decide, ?_⟩
      rw [upd_upd]
      refine hN _ _ ⟨c, rfl, same_upd hc, hc, ?_⟩
      rw [upd_same]
      have : mergeK [] [((.inr (S (cs "near")) : Key), V.int 2), (.inr (S (cs "f")), .int 1)] = kvC [d1, d2] := by
        have e : ¬ ((Sum.inr (S (cs "near")) : Key) = Sum.inr (S (cs "f"))) := fun z => nf_ne (Sum.inr.inj z)
        unfold kvC
        rw [List.map_cons, List.map_cons, hd1n, hd2n, hd1p, hd2p]
        simp [mergeK, putK, e]
      rw [this]
    rintro σ' H7 ⟨c, rfl, s7, hc6, hc7⟩
    refine cut_by (fun σ' H' => ∃ (o : Addr), [some (V.ref a0), some (V.ref p), some (V.ref b), some (V.ref wl), u4, some (V.ref c), some (V.ref o), none, none, none, none, none, none, none] = σ' ∧ LI CB CT H' p q ns b D W wl c o [d1, d2] ws) (fun N hN => ?_) ?_
    · walk_at "rd"
      refine ⟨by decide, fun o ho => hN _ _ ⟨o, rfl, ?_⟩⟩
      have so := same_upd (o := .lst [V.str (S (cs "near")), V.str (S (cs "f"))]) ho
      have s67 := s7.trans so
      have hP7 := hP6.same s7
      refine ⟨hP6.same s67, hbk6.same s67, s67 _ _ hwl6, so _ _ hc7, ?_, (ne_of_none hbk6.dd hc6).symm, (ne_of_none hbk6.ww hc6).symm, hP7.ne ho, hP7.neq ho, (ne_of_none (s7 _ _ hwl6) ho).symm, nwp, nwq, by simp, hwe, hw3, fun x hx => (htd6 x hx).same s67, hwo, fun d hd => ?_⟩
      · rw [upd_same]
        show _ = some (HO.lst [V.str d1.name, V.str d2.name])
        rw [hd1n, hd2n]
      · rcases List.mem_cons.mp hd with rfl | hd
        · rw [hd1n]; exact ld_ok (gn (by simp))
        · rw [List.mem_singleton.mp hd, hd2n]; exact ld_ok (gn (by simp))
    rintro σ' H8 ⟨o, rfl, L8⟩
    refine cut_by (fun σ' H' => ∃ u7 u8 u9 u10 u11 u12 u13 ds, [some (V.ref a0), some (V.ref p), some (V.ref b), some (V.ref wl), u4, some (V.ref c), some (V.ref o), u7, u8, u9, u10, u11, u12, u13] = σ' ∧ LI CB CT H' p q ns b D W wl c o ds ws) (fun N hN => ?_) ?_
    · walk_at "rd"
      refine ⟨p, q, ns, 6, rfl, L8.pool, by decide, by decide, fun r H9 r0 r1 hB9 hP9 => ⟨r, rfl, by omega, by omega, ?_⟩⟩
      have L9 := L8.but hB9 hP9
      obtain ⟨cnt, hcnt⟩ : ∃ cnt : Nat, cnt = r.toNat := ⟨_, rfl⟩
      have hc6 : cnt ≤ 6 := by omega
      rw [← hcnt]
      refine for_rangeN (fun i σ H10 => ∃ u7 u8 u9 u10 u11 u12 u13 ds, [some (V.ref a0), some (V.ref p), some (V.ref b), some (V.ref wl), u4, some (V.ref c), some (V.ref o), u7, u8, u9, u10, u11, u12, u13] = σ ∧ LI CB CT H10 p q ns b D W wl c o ds ws ∧ ds.length ≤ 2 + i) ?_ ?_ ?_
      · exact ⟨_, _, _, _, _, _, _, _, rfl, L9, Nat.le_refl _⟩
      · rintro i σ H10 N10 hi ⟨u7, u8, u9, u10, u11, u12, u13, ds, rfl, L10, hdl⟩ hN10
        walk_at "rd"
        obtain ⟨ki, hki⟩ : ∃ ki : Int, (i : Int) = ki := ⟨_, rfl⟩
        rw [hki]
        refine cut_by (fun σ' H' => ∃ (Nm : Addr) (ls : List (List Nat)) (u13 : Option V), [some (V.ref a0), some (V.ref p), some (V.ref b), some (V.ref wl), u4, some (V.ref c), some (V.ref o), some (V.int ki), some (V.ref Nm), u9, u10, u11, u12, u13] = σ' ∧ Nm ≠ p ∧ H' Nm = some (.lst ((ls.map S).map V.str)) ∧ LI CB CT H' p q ns b D W wl c o ds ws ∧ ls.length = 3 ∧ (∀ l ∈ ls, GName l)) (fun N hN => ?_) ?_
        · walk_at "rd"
          refine ⟨by decide, by decide, fun Nm hNm => ?_⟩
          have hNp : Nm ≠ p := L10.pool.ne hNm
          have hNq : Nm ≠ q := L10.pool.neq hNm
          refine lc_rangeN (fun i H3 => ∃ ls : List (List Nat), ls.length = i ∧ (∀ l ∈ ls, GName l) ∧ H3 Nm = some (.lst ((ls.map S).map V.str)) ∧ But p H10 H3 ∧ Pool H3 p q ns) ?_ ?_ ?_
          · exact ⟨[], rfl, (fun _ h => nomatch h), upd_same, But.of (same_upd hNm), L10.pool.same (same_upd hNm)⟩
          · rintro j H3 N2 hj ⟨ls, hl, hg, h3, hB3, hP3⟩ hN2
            walk_at "rd"
            refine ⟨p, q, ns, rfl, hP3, fun l H4 hgl hB4 hP4 => ⟨_, hB4 Nm _ hNp h3, smallt (by rw [List.length_map, List.length_map]; have : j < 3 := hj; omega), hN2 _ ⟨ls ++ [l], by rw [List.length_append, hl]; rfl, fun l' h => ?_, ?_, (hB3.trans hB4).new hNm, hP4.set hNp hNq⟩⟩⟩
            · rcases List.mem_append.mp h with h | h
              · exact hg l' h
              · rw [List.mem_singleton.mp h]; exact hgl
            · rw [upd_same, List.map_append, List.map_append]
              rfl
          rintro H3 ⟨ls, hl, hgl, h3N, hB3, hP3⟩
          exact hN _ _ ⟨Nm, ls, _, rfl, hNp, h3N, L10.but hB3 hP3, hl, hgl⟩
        rintro σ' H11 ⟨Nm, ls, v13, rfl, hNp, h11N, L11, hl3, hgl⟩
        refine cut_by (fun σ' H' => ∃ (t : Addr) (f1 : Fm), [some (V.ref a0), some (V.ref p), some (V.ref b), some (V.ref wl), u4, some (V.ref c), some (V.ref o), some (V.int ki), some (V.ref Nm), some (V.ref t), u10, u11, u12, v13] = σ' ∧ H' Nm = some (.lst ((ls.map S).map V.str)) ∧ LI CB CT H' p q ns b D W wl c o ds ws ∧ FmAt H' t f1 ∧ f1.Good ∧ f1.dep ≤ 2 ∧ (∀ z ∈ allN f1, z ∈ ls.map S)) (fun N hN => ?_) ?_
        · walk_at "rd"
          exact ⟨p, q, ns, Nm, ls, rfl, L11.pool, hNp, h11N, by omega, by omega, hgl, fun t f H' hB hP2 hf hg hd hn => hN _ _ ⟨t, f, rfl, hB _ _ hNp h11N, L11.but hB hP2, hf, hg, hd, hn⟩⟩
        rintro σ' H12 ⟨t, f1, rfl, h12N, L12, hf12, hfg, hfd, hfn⟩
        have hU : (ls.map S).length ≤ 3 := by rw [List.length_map]; omega
        have hlok : ∀ z ∈ ls.map S, PyData.strOk z = true := fun z hz => by
          obtain ⟨l, hl, rfl⟩ := List.mem_map.mp hz
          exact ld_ok (hgl l hl)
        obtain ⟨g1, g2, g3, g4⟩ := bnd hfg (by omega) hfn (by omega)
        have hfl := fvL_len f1 hfn
        refine cut_by (fun σ' H' => ∃ (T : Addr), [some (V.ref a0), some (V.ref p), some (V.ref b), some (V.ref wl), u4, some (V.ref c), some (V.ref o), some (V.int ki), some (V.ref Nm), some (V.ref t), some (V.ref T), u11, u12, v13] = σ' ∧ Same H12 H' ∧ H12 T = none ∧ H' T = some (.lst ((fvL f1).map V.str))) (fun N hN => ?_) ?_
        · walk_at "rd"
          exact ⟨t, f1, ls.map S, rfl, hf12, hfg, by omega, hfn, by omega, fun l H' s h0 h1 => hN _ _ ⟨l, rfl, s, h0, h1⟩⟩
        rintro σ' H13 ⟨T0, rfl, s13, hT0, h13T⟩
        have L13 := L12.same s13
        refine cut_by (fun σ' H' => ∃ (T : Addr) (ps : List Str) (v13 : Option V), [some (V.ref a0), some (V.ref p), some (V.ref b), some (V.ref wl), u4, some (V.ref c), some (V.ref o), some (V.int ki), some (V.ref Nm), some (V.ref t), some (V.ref T), u11, u12, v13] = σ' ∧ LI CB CT H' p q ns b D W wl c o ds ws ∧ FmAt H' t f1 ∧ H' T = some (.lst (ps.map V.str)) ∧ ps.length ≤ 3 ∧ (∀ z ∈ ps, z ∈ ls.map S) ∧ T ≠ o ∧ T ≠ p) (fun N hN => ?_) ?_
        · walk_at "rd"
          refine ⟨p, q, ns, 3, rfl, L13.pool, by decide, by decide, fun r H14 r0 r1 hB14 hP14 => ⟨rfl, ?_⟩⟩
          have L14 := L13.but hB14 hP14
          have h14N := hB14 _ _ hNp (s13 _ _ h12N)
          have hf14 := (hf12.tups (Tups.same s13)).tups (Tups.pool L13.pool hB14)
          refine ite2 (fun hr => ?_) (fun hr => ?_)
          · refine ⟨p, q, ns, 4, rfl, hP14, by decide, by decide, fun r2 H15 q0 q1 hB15 hP15 => ⟨r2, rfl, by omega, by omega, fun G hG => ?_⟩⟩
            have L15 := L14.but hB15 hP15
            have hGp : G ≠ p := hP15.ne hG
            have hGq : G ≠ q := hP15.neq hG
            obtain ⟨c4, hc4⟩ : ∃ c4 : Nat, c4 = r2.toNat := ⟨_, rfl⟩
            rw [← hc4]
            refine lc_rangeN (fun j H16 => ∃ ps : List Str, ps.length = j ∧ (∀ z ∈ ps, z ∈ ls.map S) ∧ H16 G = some (.lst (ps.map V.str)) ∧ But p H15 H16 ∧ Pool H16 p q ns) ?_ ?_ ?_
            · exact ⟨[], rfl, (fun _ h => nomatch h), upd_same, But.of (same_upd hG), hP15.same (same_upd hG)⟩
            · rintro j H16 N2 hj ⟨ps, hl, hps, h16, hB16, hP16⟩ hN2
              walk_at "rd"
              refine ⟨p, q, ns, 3, rfl, hP16, by decide, by decide, fun e H17 e0 e1 hB17 hP17 => ?_⟩
              have h17N := hB17 _ _ hNp (hB16 _ _ hNp (hB15 _ _ hNp h14N))
              obtain ⟨zv, hat, hzm⟩ := at_mem (xs := (ls.map S).map V.str) (i := e) e0 (by rw [List.length_map, List.length_map]; omega)
              obtain ⟨z, hz, rfl⟩ := List.mem_map.mp hzm
              refine ⟨_, e, rfl, SqL.of h17N, _, hat, _, hB17 _ _ hGp h16, smallt (by rw [List.length_map]; omega), hN2 _ ⟨ps ++ [z], by rw [List.length_append, hl]; rfl, fun y hy => ?_, ?_, (hB16.trans hB17).new hG, hP17.set hGp hGq⟩⟩
              · rcases List.mem_append.mp hy with h | h
                · exact hps y h
                · rw [List.mem_singleton.mp h]; exact hz
              · rw [upd_same, List.map_append]
                rfl
            · rintro H16 ⟨ps, hl, hps, h16, hB16, hP16⟩
              refine hN _ _ ⟨G, ps, _, rfl, L15.but hB16 hP16, (hf14.tups (Tups.pool hP14 hB15)).tups (Tups.pool hP15 hB16), h16, by omega, hps, (ne_of_none L15.ord hG).symm, hGp⟩
          · exact hN _ _ ⟨T0, fvL f1, _, rfl, L14, hf14, hB14 _ _ (L12.pool.ne hT0) h13T, by omega, fun z hz => hfn z (fvL_all f1 z hz), (ne_of_none L12.ord hT0).symm, L12.pool.ne hT0⟩
        rintro σ' H14 ⟨T, ps, w13, rfl, L14, hf14, hT14, hpl, hps, hTo, hTp⟩
        have hpok : ∀ z ∈ ps, PyData.strOk z = true := fun z hz => hlok z (hps z hz)
        refine cut_by (fun σ' H' => ∃ (n : Str), [some (V.ref a0), some (V.ref p), some (V.ref b), some (V.ref wl), u4, some (V.ref c), some (V.ref o), some (V.int ki), some (V.ref Nm), some (V.ref t), some (V.ref T), some (V.str n), u12, w13] = σ' ∧ LI CB CT H' p q ns b D W wl c o ds ws ∧ FmAt H' t f1 ∧ H' T = some (.lst (ps.map V.str)) ∧ PyData.strOk n = true) (fun N hN => ?_) ?_
        · walk_at "rd"
          refine ⟨p, q, ns, rfl, L14.pool, fun l1 H15 hl1 hB15 hP15 => ⟨p, q, ns, rfl, hP15, fun l2 H16 hl2 hB16 hP16 => ⟨by show 5 ≤ sizeLine; decide, fun G hG => ?_⟩⟩⟩
          refine menu hP16 hG 5 rfl (by decide) (by decide) fun v H17 hv hB17 hP17 => ?_
          obtain ⟨l, rfl, hlk⟩ : ∃ l, v = V.str (S l) ∧ PyData.strOk (S l) = true := by
            simp only [List.mem_cons, List.not_mem_nil, or_false] at hv
            rcases hv with h | h | h | h | h
            · exact ⟨_, h, ld_ok hl1⟩
            · exact ⟨_, h, ld_ok (gn (by simp))⟩
            · exact ⟨_, h, ld_ok (gn (by simp))⟩
            · exact ⟨_, h, ok_S (by decide +kernel)⟩
            · exact ⟨_, h, ld_ok hl2⟩
          have bA : But p H14 H17 := (hB15.trans hB16).trans hB17
          exact hN _ _ ⟨_, rfl, L14.but bA hP17, hf14.tups (Tups.pool L14.pool bA), bA _ _ hTp hT14, hlk⟩
        rintro σ' H15 ⟨n, rfl, L15, hf15, hT15, hnok⟩
        refine cut_by (fun σ' H' => [some (V.ref a0), some (V.ref p), some (V.ref b), some (V.ref wl), u4, some (V.ref c), some (V.ref o), some (V.int ki), some (V.ref Nm), some (V.ref t), some (V.ref T), some (V.str n), u12, w13] = σ' ∧ Same H15 H') (fun N hN => ?_) ?_
        · walk_at "rd"
          refine ⟨b, D, W, t, n, ds, ws, f1, .non, rfl, L15.bk, hf15, hfg, g1, g2, g3, g4, by omega, .inl ⟨rfl, fun v1 H16 s16 hv1 => ⟨c, wl, t, ds, ws, f1, rfl, s16 _ _ L15.cnt, s16 _ _ L15.wds, hf15.tups (Tups.same s16), by omega, fun v2 H17 s17 hv2 => ?_⟩⟩⟩
          have hsh := flt_ok (faultF_ok (ds := ds) (ws := ws) hfg)
          refine ⟨_, (hv1.tups (Tups.same s17)).dp, _, hv2.dp, hsh, hsh, ?_⟩
          rw [shaped_refl hsh, if_neg (by decide)]
          exact hN _ _ ⟨rfl, s16.trans s17⟩
        rintro σ' H16 ⟨rfl, s16⟩
        have L16 := L15.same s16
        refine cut_by (fun σ' H' => ∃ v, [some (V.ref a0), some (V.ref p), some (V.ref b), some (V.ref wl), u4, some (V.ref c), some (V.ref o), some (V.int ki), some (V.ref Nm), some (V.ref t), some (V.ref T), some (V.str n), some v, w13] = σ' ∧ Same H16 H' ∧ ValF H' v (dueD ds ws n ps f1)) (fun N hN => ?_) ?_
        · walk_at "rd"
          exact ⟨c, wl, T, t, n, ds, ws, ps, f1, ls.map S, rfl, L16.cnt, L16.wds, s16 _ _ hT15, by omega, hf15.tups (Tups.same s16), hfg, by omega, hfn, by omega, fun v H17 s17 hv => hN _ _ ⟨v, rfl, s17, hv⟩⟩
        rintro σ' H17 ⟨v, rfl, s17, hv⟩
        have L17 := L16.same s17
        have s1617 := s16.trans s17
        refine cut_by (fun σ' H' => [some (V.ref a0), some (V.ref p), some (V.ref b), some (V.ref wl), u4, some (V.ref c), some (V.ref o), some (V.int ki), some (V.ref Nm), some (V.ref t), some (V.ref T), some (V.str n), some v, w13] = σ' ∧ But D H17 H' ∧ ∃ t' T', BkAt CB H' b D W (if dueD ds ws n ps f1 = none then ds ++ [⟨n, ps, f1, t', T', t⟩] else ds) ws ∧ (dueD ds ws n ps f1 = none → findD ds n = none)) (fun N hN => ?_) ?_
        · walk_at "rd"
          refine ⟨_, .inl ⟨SqL.of (s1617 _ _ hT15), fun T2 hT2 => ?_⟩⟩
          have sT := same_upd (o := .tup (ps.map V.str)) hT2
          have hsh := flt_ok (dueD_ok (ds := ds) (ws := ws) hfg hnok hpok)
          refine ⟨b, D, W, t, n, ds, ws, f1, .ref T2, rfl, (L17.same sT).bk, hf15.tups (Tups.same (s1617.trans sT)), hfg, g1, g2, g3, g4, by omega, .inr ⟨T2, ps, rfl, upd_same, by omega, fun e t' H' ht' b' bk' => ?_, fun y e v' H' s' hv' => ?_⟩⟩
          · rw [e] at hv
            refine ⟨.none, .non, .none, by rw [show v = .non from hv]; exact .non, by decide, by decide, ?_⟩
            rw [if_neg (by decide)]
            refine hN _ _ ⟨rfl, (But.of sT).trans b', t', T2, by rw [if_pos e]; exact bk', fun _ => ?_⟩
            cases e2 : findD ds n with
            | none => rfl
            | some d => rw [dueD_cla e2] at e; cases e
          · have hv'' := hv'
            rw [← e] at hv''
            refine ⟨_, hv''.dp, _, (hv.tups (Tups.same (sT.trans s'))).dp, hsh, hsh, ?_⟩
            rw [shaped_refl hsh, if_neg (by decide)]
            exact hN _ _ ⟨rfl, But.of (sT.trans s'), t, t, by rw [if_neg (by rw [e]; simp)]; exact (L17.same (sT.trans s')).bk, fun z => absurd z (by rw [e]; simp)⟩
        rintro σ' H18 ⟨rfl, b18, t', T', bk18, hnd18⟩
        have dD := L17.bk.dd
        have nk : ∀ {a : Addr} {u : HO}, H17 a = some u → (∀ kv, u ≠ .dK kv) → H18 a = some u := fun h z => b18 _ _ (ne_of h dD (z _)) h
        have hP18 := poolK L17.pool b18 dD
        have hwds18 := nk L17.wds (fun _ z => by cases z)
        have hord18 := nk L17.ord (fun _ z => by cases z)
        have hcnt18 := b18 _ _ L17.nD L17.cnt
        have hT18 := nk (s1617 _ _ hT15) (fun _ z => by cases z)
        have hf18 : FmAt H18 t f1 := (hf15.tups (Tups.same s1617)).tups (Tups.but b18 dD (fun _ z => by cases z))
        have htd18 : ∀ x ∈ ws, TdOk CT H18 x.2 := fun x hx => (L17.td x hx).but b18 dD (fun _ _ _ z => by cases z) (fun z => by cases z)
        refine cut_by (fun σ' H' => ∃ ds', [some (V.ref a0), some (V.ref p), some (V.ref b), some (V.ref wl), u4, some (V.ref c), some (V.ref o), some (V.int ki), some (V.ref Nm), some (V.ref t), some (V.ref T), some (V.str n), some v, w13] = σ' ∧ LI CB CT H' p q ns b D W wl c o ds' ws ∧ ds'.length ≤ 2 + (i + 1)) (fun N hN => ?_) ?_
        · walk_at "rd"
          by_cases hdn : dueD ds ws n ps f1 = none
          · rw [hdn] at hv
            obtain rfl : v = .non := hv
            rw [if_pos hdn] at bk18
            have hnd := hnd18 hdn
            rw [if_pos rfl]
            obtain ⟨dn, hdnq⟩ : ∃ dn : Df, dn = ⟨n, ps, f1, t', T', t⟩ := ⟨_, rfl⟩
            rw [← hdnq] at bk18
            have cne : c ≠ o := ne_of hcnt18 hord18 (by intro z; cases z)
            refine cut_by (fun σ' H' => [some (V.ref a0), some (V.ref p), some (V.ref b), some (V.ref wl), u4, some (V.ref c), some (V.ref o), some (V.int ki), some (V.ref Nm), some (V.ref t), some (V.ref T), some (V.str n), some V.non, w13] = σ' ∧ H' = upd H18 c (.dK (kvC (ds ++ [dn])))) (fun N3 hN3 => ?_) ?_
            · walk_at "rd"
              refine ⟨_, .inl (SqL.of hT18), ?_⟩
              rw [List.length_map]
              have hpu := DPut.k (v := V.int (ps.length : Int)) (k := .inr n) hcnt18 (by unfold kvC; rw [List.length_map]; exact smallt (by omega))
              rw [putK_new _ (by rw [valV_C, hnd]; rfl), show kvC ds ++ [(.inr n, V.int (ps.length : Int))] = kvC (ds ++ [dn]) by unfold kvC; rw [List.map_append, hdnq]; rfl] at hpu
              exact ⟨_, hpu, hN3 _ _ ⟨rfl, rfl⟩⟩
            rintro σ3 H20 ⟨rfl, hH20⟩
            have b20 : But c H18 H20 := hH20 ▸ But.upd
            have k20 : ∀ {a : Addr} {u : HO}, H18 a = some u → (∀ kv, u ≠ .dK kv) → H20 a = some u := fun h z => b20 _ _ (ne_of h hcnt18 (z _)) h
            have hc20 : H20 c = some (.dK (kvC (ds ++ [dn]))) := by rw [hH20, upd_same]
            have bk20 := bk18.but b20 hcnt18 (fun _ _ _ z => by cases z) (fun _ z => by cases z) L17.nD L17.nW
            have hP20 := poolK hP18 b20 hcnt18
            have hord20 := k20 hord18 (fun _ z => by cases z)
            refine cut_by (fun σ' H' => [some (V.ref a0), some (V.ref p), some (V.ref b), some (V.ref wl), u4, some (V.ref c), some (V.ref o), some (V.int ki), some (V.ref Nm), some (V.ref t), some (V.ref T), some (V.str n), some V.non, w13] = σ' ∧ H' = upd H20 o (.lst (((ds ++ [dn]).map (·.name)).map V.str))) (fun N3 hN3 => ?_) ?_
            · walk_at "rd"
              refine ⟨tyL hord20, _, hord20, smallt (by rw [List.length_map, List.length_map]; omega), ?_⟩
              rw [show (ds.map (·.name)).map V.str ++ [V.str n] = ((ds ++ [dn]).map (·.name)).map V.str by rw [List.map_append, List.map_append, hdnq]; rfl]
              exact hN3 _ _ ⟨rfl, rfl⟩
            rintro σ4 H21 ⟨rfl, hH21⟩
            have b21 : But o H20 H21 := hH21 ▸ But.upd
            have k21 : ∀ {a : Addr} {u : HO}, H20 a = some u → (∀ xs, u ≠ .lst xs) → H21 a = some u := fun h z => b21 _ _ (ne_of h hord20 (z _)) h
            have ho21 : H21 o = some (.lst (((ds ++ [dn]).map (·.name)).map V.str)) := by rw [hH21, upd_same]
            have nDo : o ≠ D := ne_of hord20 bk20.dd (by intro z; cases z)
            have nWo : o ≠ W := ne_of hord20 bk20.ww (by intro z; cases z)
            have bk21 := bk20.but b21 hord20 (fun _ _ _ z => by cases z) (fun _ z => by cases z) nDo nWo
            have hP21 : Pool H21 p q ns := by
              obtain ⟨e1, e2, x, k, hp, e3⟩ := hP20
              exact ⟨e1, b21 _ _ L17.noq.symm e2, x, k, b21 _ _ L17.nop.symm hp, e3⟩
            have htd21 : ∀ x ∈ ws, TdOk CT H21 x.2 := fun x hx => by
              refine ((htd18 x hx).but b20 hcnt18 (fun _ _ _ z => by cases z) (fun z => by cases z)).but b21 hord20 (fun _ _ _ z => by cases z) fun z => ?_
              have hne := L17.ne
              cases e : ds with
              | nil => exact hne e
              | cons d0 dr =>
                rw [e] at z
                cases z
            have hf21 : FmAt H21 t f1 := (hf18.tups (Tups.but b20 hcnt18 (fun _ z => by cases z))).tups (Tups.but b21 hord20 (fun _ z => by cases z))
            have hT21 := b21 _ _ hTo (k20 hT18 (fun _ z => by cases z))
            have L21 : LI CB CT H21 p q ns b D W wl c o (ds ++ [dn]) ws :=
              ⟨hP21, bk21, b21 _ _ L17.now.symm (k20 hwds18 (fun _ z => by cases z)), k21 hc20 (fun _ z => by cases z), ho21, L17.nD, L17.nW, L17.nop, L17.noq, L17.now, L17.nwp, L17.nwq, by simp, L17.we, L17.w3, htd21, L17.wo, fun d hd => by
                rcases List.mem_append.mp hd with hd | hd
                · exact L17.do_ d hd
                · rw [List.mem_singleton.mp hd, hdnq]; exact hnok⟩
            have hfd : findD (ds ++ [dn]) n = some dn := by
              unfold findD
              rw [List.find?_append, show ds.find? (fun d => decide (d.name = n)) = none from hnd, List.find?_cons, decide_eq_true (show dn.name = n by rw [hdnq])]
              rfl
            obtain ⟨dx21, hi21⟩ := bk21.ins
            walk_at "rd"
            refine ⟨_, _, hi21, by rw [← ofStr_S]; exact bf_no _ _ (by decide +kernel) (by decide +kernel), b, D, W, _, ws, n, rfl, bk21, fun d hd => ?_, fun e => absurd e (by rw [hfd]; simp)⟩
            rw [hfd] at hd
            cases hd
            have hdp := (bk21.df dn (by simp)).2.1
            have hdf := (bk21.df dn (by simp)).2.2
            rw [show dn.ps = ps by rw [hdnq]] at hdp
            rw [show dn.f = f1 by rw [hdnq]] at hdf
            refine ⟨_, .inl ⟨SqL.of hT21, fun T3 hT3 => ?_⟩⟩
            have s22 := same_upd (o := .tup (ps.map V.str)) hT3
            have hsp := tup_shaped hpok
            refine ⟨_, .tup (SqT.of (s22 _ _ hdp)) (strs_dps ps), _, .tup (SqT.of upd_same) (strs_dps ps), hsp, hsp, ?_⟩
            rw [shaped_refl hsp, if_neg (by decide)]
            refine ⟨_, _, s22 _ _ hi21, by rw [← ofStr_S]; exact bf_no _ _ (by decide +kernel) (by decide +kernel), b, D, W, _, ws, n, rfl, bk21.same s22, fun d hd => ?_, fun e => absurd e (by rw [hfd]; simp)⟩
            rw [hfd] at hd
            cases hd
            obtain ⟨q1, q2⟩ := fm_lay f1 hfg
            have hsf : SeqAt.shaped (fmD f1) = true := by
              simp [SeqAt.shaped, q1]
              omega
            refine ⟨_, (hdf.tups (Tups.same s22)).dp, _, (hf21.tups (Tups.same s22)).dp, hsf, hsf, ?_⟩
            rw [shaped_refl hsf, if_neg (by decide)]
            exact hN _ _ ⟨_, rfl, L21.same s22, by rw [List.length_append]; show _ + 1 ≤ _; omega⟩
          · have hvn : v ≠ .non := by
              cases e : dueD ds ws n ps f1 with
              | none => exact absurd e hdn
              | some y =>
                rw [e] at hv
                intro z
                cases y <;> (obtain ⟨p, h1, _⟩ := hv; rw [h1] at z; cases z)
            rw [if_neg hvn]
            rw [if_neg hdn] at bk18
            exact hN _ _ ⟨ds, rfl, ⟨hP18, bk18, hwds18, hcnt18, hord18, L17.nD, L17.nW, L17.nop, L17.noq, L17.now, L17.nwp, L17.nwq, L17.ne, L17.we, L17.w3, htd18, L17.wo, L17.do_⟩, by omega⟩
        rintro σ' H19 ⟨ds', rfl, L19, hdl'⟩
        obtain ⟨dx, hi19⟩ := L19.bk.ins
        walk_at "rd"
        refine ⟨_, _, hi19, by rw [← ofStr_S]; exact bf_no _ _ (by decide +kernel) (by decide +kernel), b, D, W, ds', ws, rfl, L19.bk, fun l1 hl1 => ?_⟩
        have s20 := same_upd (o := .lst ((ds'.map (·.name)).map V.str)) hl1
        have hok1 : ∀ z ∈ ds'.map (·.name), PyData.strOk z = true := fun z hz => by
          obtain ⟨d, hd, rfl⟩ := List.mem_map.mp hz
          exact L19.do_ d hd
        have hok2 : ∀ z ∈ ws.map (·.1), PyData.strOk z = true := fun z hz => by
          obtain ⟨d, hd, rfl⟩ := List.mem_map.mp hz
          exact L19.wo d hd
        have h1s := list_shaped hok1
        have h2s := list_shaped hok2
        refine ⟨_, .lst (SqL.of upd_same) (strs_dps _), _, .lst (SqL.of (s20 _ _ L19.ord)) (strs_dps _), h1s, h1s, ?_⟩
        rw [shaped_refl h1s, if_neg (by decide)]
        refine ⟨_, _, s20 _ _ hi19, by rw [← ofStr_S]; exact bf_no _ _ (by decide +kernel) (by decide +kernel), b, D, W, ds', ws, rfl, L19.bk.same s20, fun l2 hl2 => ?_⟩
        have s21 := same_upd (o := .lst ((ws.map (·.1)).map V.str)) hl2
        refine ⟨_, .lst (SqL.of upd_same) (strs_dps _), _, .lst (SqL.of (s21 _ _ (s20 _ _ L19.wds))) (strs_dps _), h2s, h2s, ?_⟩
        rw [shaped_refl h2s, if_neg (by decide)]
        exact hN10 _ _ ⟨_, _, _, _, _, _, _, ds', rfl, L19.same (s20.trans s21), hdl'⟩
      · rintro σ H10 ⟨u7, u8, u9, u10, u11, u12, u13, ds, rfl, L10, hdl⟩
        exact hN _ _ ⟨_, _, _, _, _, _, _, _, rfl, L10⟩
    rintro σ' H9 ⟨u7, u8, u9, u10, u11, u12, u13, ds, rfl, L9⟩
    walk_at "rd"
    obtain ⟨dx, hi⟩ := L9.bk.ins
    obtain ⟨ws0, x9, hws9⟩ : ∃ ws0 x9, ws = ws0 ++ [x9] := by
      rcases List.eq_nil_or_concat ws with e | ⟨w0, x0, e⟩
      · exact absurd e L9.we
      · exact ⟨w0, x0, by rw [e, List.concat_eq_append]⟩
    have elast : atI ((ws.map (·.1)).map V.str) (-1) = some (V.str x9.1) := by
      rw [hws9, List.map_append, List.map_append]
      exact atI_last _ _
    have hin : x9.1 ∈ ws.map (·.1) := by rw [hws9]; simp
    obtain ⟨d9, hd9⟩ : ∃ d9, findW ws x9.1 = some d9 := by
      cases e : findW ws x9.1 with
      | none => exact absurd hin (findW_none.mp e)
      | some d => exact ⟨d, rfl⟩
    refine ⟨_, SqL.of L9.wds, _, elast, b, D, W, x9.1, ds, ws, rfl, L9.bk, ?_, fun d hd H10 s10 => ?_, fun e => absurd e (by rw [hd9]; simp)⟩
    · have := L9.w3
      omega
    have L10 := L9.same s10
    obtain ⟨dx2, hi2⟩ := L10.bk.ins
    refine ⟨_, SqL.of L10.wds, _, elast, rfl, ?_⟩
    rw [if_pos rfl]
    obtain ⟨y0, ws1, hws1⟩ : ∃ y0 ws1, ws = y0 :: ws1 := by
      cases e : ws with
      | nil => exact absurd e L9.we
      | cons a b => exact ⟨a, b, rfl⟩
    refine ⟨_, _, hi2, by rw [← ofStr_S]; exact bf_no _ _ (by decide +kernel) (by decide +kernel), _, SqL.of L10.wds, V.str y0.1, by rw [hws1]; exact atI_nat (j := 0) rfl, b, D, W, ds, ws, y0.1, rfl, L10.bk, fun d hd => ?_, fun e => absurd (findW_none.mp e) (by rw [hws1]; simp)⟩
    obtain ⟨dx3, o3, t3, h3, h4⟩ := L10.td d (findW_mem hd).1
    rw [← ofStr_S]
    refine fld_of c_T t_outputs h3 (tf_o _ _) ⟨by decide, fun p1 hp1 => ?_⟩
    exact ⟨.list [.int 1], .lst (SqL.of ((same_upd hp1) _ _ h4)) (.cons (.int 1) .nil), .list [.int 1], .lst (SqL.of upd_same) (.cons (.int 1) .nil), by decide, by decide, by rw [shaped_refl (by decide)]; exact ok _⟩

end
end
def KeysAre : List DictEntry → List String → Prop
  | [], [] => True
  | e :: es, k :: ks => (∃ t, e.key = .str (Str.ofString k) t) ∧ KeysAre es ks
  | [], _ :: _ => False
  | _ :: _, [] => False
theorem keysAre_mem : ∀ {es : List DictEntry} {ks : List String} {e : DictEntry}, KeysAre es ks → e ∈ es → ∃ k ∈ ks, ∃ t, e.key = .str (Str.ofString k) t
  | e :: es, k :: ks, x, ⟨h1, h2⟩, hm => by
    rcases List.mem_cons.mp hm with rfl | hm
    · exact ⟨k, List.mem_cons_self, h1⟩
    · obtain ⟨k2, hk, h⟩ := keysAre_mem h2 hm
      exact ⟨k2, List.mem_cons_of_mem _ hk, h⟩
  | _ :: _, [], _, h, _ => h.elim
  | [], _, _, _, hm => by cases hm
theorem keysAre_has : ∀ {es : List DictEntry} {ks : List String} {k : String}, KeysAre es ks → k ∈ ks → ∃ e ∈ es, ∃ t, e.key = .str (Str.ofString k) t
  | e :: es, k :: ks, x, ⟨h1, h2⟩, hm => by
    rcases List.mem_cons.mp hm with rfl | hm
    · exact ⟨e, List.mem_cons_self, h1⟩
    · obtain ⟨k2, hk, h⟩ := keysAre_has h2 hm
      exact ⟨k2, List.mem_cons_of_mem _ hk, h⟩
  | [], _ :: _, _, h, _ => h.elim
  | _, [], _, _, hm => by cases hm
theorem ktabl_of {K : PySem.W.Frag} {w : World} {a : Addr} {es : Array DictEntry} {n : Nat} {ks : List String} (h1 : K.lookup a = some ⟨.type "dict", none, .dict es n, #[]⟩) (h2 : PySem.W.KeysLit w.params es.toList) (h3 : (a == sysModules) = false) (h4 : KeysAre es.toList ks) : KTabl K w a (ks.map cs) := by
  refine ⟨es, n, h1, h2, h3, fun l => ?_⟩
  unfold PySem.W.nsIn
  rw [h1]
  dsimp only
  cases hf : es.toList.find? (fun e => e.key.isStr (S l)) with
  | some e =>
    refine ⟨_, rfl, ?_⟩
    have hs := List.find?_some hf
    obtain ⟨k, hk, t, hkey⟩ := keysAre_mem h4 (List.mem_of_find?_eq_some hf)
    refine (decide_eq_true ?_).symm
    rw [hkey] at hs
    have e1 : Str.ofString k = S l := by simpa [Value.isStr] using hs
    rw [ofStr_S] at e1
    rw [← S_inj e1]
    exact List.mem_map.mpr ⟨k, hk, rfl⟩
  | none =>
    have hno : ∀ e ∈ es.toList, ¬ e.key.isStr (S l) = true := by
      intro e he
      have := List.find?_eq_none.mp hf e he
      exact this
    have hr : es.toList.any (·.refKey) = false := by
      rw [List.any_eq_false]
      intro e he
      obtain ⟨k, hk, t, hkey⟩ := keysAre_mem h4 he
      unfold DictEntry.refKey
      rw [hkey]
      simp
    rw [hr]
    refine ⟨none, rfl, (decide_eq_false fun hl => ?_).symm⟩
    obtain ⟨k, hk, rfl⟩ := List.mem_map.mp hl
    obtain ⟨e, he, t, hkey⟩ := keysAre_has h4 hk
    refine hno e he ?_
    rw [hkey, ofStr_S]
    simp [Value.isStr]
abbrev si_Clashing : Stmt := (C8.clsBody (topS 5)).getD 0 (.Pass ⟨0, 0, 0, 0⟩)
theorem sci_Clashing : FnScope ["self", "name"] ["self", "name"] (C8.fnScope si_Clashing) := C8.fnScope_by (by decide +kernel)
theorem f_ini_Clashing {P : Program} {w : World} {K : PySem.W.Frag} {mg : Str → Option Value} {base : Heap} {C fI : Addr} {fd : FuncData} (T : OexC K C) (nof : PySem.W.findIn K (.ref C) "name" = some none) (F : C8.Fun K "__init__" "Clashing.__init__" si_Clashing fI fd) : FnOk P w K mg base C8.CX0 1 fI fd ["self", "name"] (sp_init C "name") := by
  refine C8.fn0 F sci_Clashing (fun vs H Q E h => ?_) (fun cdv A outer s H vs Q E hr h => ?_)
  · obtain ⟨_, _, rfl, _⟩ := h
    rfl
  · obtain ⟨a, v, rfl, ha, ok⟩ := h
    exact ⟨_, pss_one (ps_ost (pv 0) (pv 1)), v, rfl, .ref a, rfl, a, C, rfl, T, nof, .inl ⟨ha, ok⟩⟩
abbrev si_Unknown : Stmt := (C8.clsBody (topS 4)).getD 0 (.Pass ⟨0, 0, 0, 0⟩)
theorem sci_Unknown : FnScope ["self", "name"] ["self", "name"] (C8.fnScope si_Unknown) := C8.fnScope_by (by decide +kernel)
theorem f_ini_Unknown {P : Program} {w : World} {K : PySem.W.Frag} {mg : Str → Option Value} {base : Heap} {C fI : Addr} {fd : FuncData} (T : OexC K C) (nof : PySem.W.findIn K (.ref C) "name" = some none) (F : C8.Fun K "__init__" "Unknown.__init__" si_Unknown fI fd) : FnOk P w K mg base C8.CX0 1 fI fd ["self", "name"] (sp_init C "name") := by
  refine C8.fn0 F sci_Unknown (fun vs H Q E h => ?_) (fun cdv A outer s H vs Q E hr h => ?_)
  · obtain ⟨_, _, rfl, _⟩ := h
    rfl
  · obtain ⟨a, v, rfl, ha, ok⟩ := h
    exact ⟨_, pss_one (ps_ost (pv 0) (pv 1)), v, rfl, .ref a, rfl, a, C, rfl, T, nof, .inl ⟨ha, ok⟩⟩
abbrev si_Misused : Stmt := (C8.clsBody (topS 7)).getD 0 (.Pass ⟨0, 0, 0, 0⟩)
theorem sci_Misused : FnScope ["self", "why"] ["self", "why"] (C8.fnScope si_Misused) := C8.fnScope_by (by decide +kernel)
theorem f_ini_Misused {P : Program} {w : World} {K : PySem.W.Frag} {mg : Str → Option Value} {base : Heap} {C fI : Addr} {fd : FuncData} (T : OexC K C) (nof : PySem.W.findIn K (.ref C) "why" = some none) (F : C8.Fun K "__init__" "Misused.__init__" si_Misused fI fd) : FnOk P w K mg base C8.CX0 1 fI fd ["self", "why"] (sp_init C "why") := by
  refine C8.fn0 F sci_Misused (fun vs H Q E h => ?_) (fun cdv A outer s H vs Q E hr h => ?_)
  · obtain ⟨_, _, rfl, _⟩ := h
    rfl
  · obtain ⟨a, v, rfl, ha, ok⟩ := h
    exact ⟨_, pss_one (ps_ost (pv 0) (pv 1)), v, rfl, .ref a, rfl, a, C, rfl, T, nof, .inl ⟨ha, ok⟩⟩
theorem all_mk {l : PySem.W.OpenLaw} {w : World} {K : PySem.W.Frag} {h : Heap} {mg : Str → Option Value} {fa : Addr} (X : K.In h) (G : h.Ns mainGlobals mg) (hfa : mg "law" = some (.ref fa))
    {CB : Addr}
    {CT : Addr}
    {f0 : Addr} {od0 an0 : Option Addr} {sl0 : Array (Option Value)} {oc0 kV0 dc0 pm0 cd0 ct0 : Value}
    {f1 : Addr} {od1 an1 : Option Addr} {sl1 : Array (Option Value)} {oc1 kV1 dc1 pm1 cd1 ct1 : Value}
    {f2 : Addr} {od2 an2 : Option Addr} {sl2 : Array (Option Value)} {oc2 kV2 dc2 pm2 cd2 ct2 : Value}
    {f3 : Addr} {od3 an3 : Option Addr} {sl3 : Array (Option Value)} {oc3 kV3 dc3 pm3 cd3 ct3 : Value}
    {f4 : Addr} {od4 an4 : Option Addr} {sl4 : Array (Option Value)} {oc4 kV4 dc4 pm4 cd4 ct4 : Value}
    {f5 : Addr} {od5 an5 : Option Addr} {sl5 : Array (Option Value)} {oc5 kV5 dc5 pm5 cd5 ct5 : Value}
    {f6 : Addr} {od6 an6 : Option Addr} {sl6 : Array (Option Value)} {oc6 kV6 dc6 pm6 cd6 ct6 : Value}
    {f7 : Addr} {od7 an7 : Option Addr} {sl7 : Array (Option Value)} {oc7 kV7 dc7 pm7 cd7 ct7 : Value}
    {f8 : Addr} {od8 an8 : Option Addr} {sl8 : Array (Option Value)} {oc8 kV8 dc8 pm8 cd8 ct8 : Value}
    {f9 : Addr} {od9 an9 : Option Addr} {sl9 : Array (Option Value)} {oc9 kV9 dc9 pm9 cd9 ct9 : Value}
    {f10 : Addr} {od10 an10 : Option Addr} {sl10 : Array (Option Value)} {oc10 kV10 dc10 pm10 cd10 ct10 : Value}
    {f11 : Addr} {od11 an11 : Option Addr} {sl11 : Array (Option Value)} {oc11 kV11 dc11 pm11 cd11 ct11 : Value}
    {f12 : Addr} {od12 an12 : Option Addr} {sl12 : Array (Option Value)} {oc12 kV12 dc12 pm12 cd12 ct12 : Value}
    {f13 : Addr} {od13 an13 : Option Addr} {sl13 : Array (Option Value)} {oc13 kV13 dc13 pm13 cd13 ct13 : Value}
    {f14 : Addr} {od14 an14 : Option Addr} {sl14 : Array (Option Value)} {oc14 kV14 dc14 pm14 cd14 ct14 : Value}
    {f15 : Addr} {od15 an15 : Option Addr} {sl15 : Array (Option Value)} {oc15 kV15 dc15 pm15 cd15 ct15 : Value}
    {f16 : Addr} {od16 an16 : Option Addr} {sl16 : Array (Option Value)} {oc16 kV16 dc16 pm16 cd16 ct16 : Value}
    {f17 : Addr} {od17 an17 : Option Addr} {sl17 : Array (Option Value)} {oc17 kV17 dc17 pm17 cd17 ct17 : Value}
    {f18 : Addr} {od18 an18 : Option Addr} {sl18 : Array (Option Value)} {oc18 kV18 dc18 pm18 cd18 ct18 : Value}
    {f19 : Addr} {od19 an19 : Option Addr} {sl19 : Array (Option Value)} {oc19 kV19 dc19 pm19 cd19 ct19 : Value}
    {f20 : Addr} {od20 an20 : Option Addr} {sl20 : Array (Option Value)} {oc20 kV20 dc20 pm20 cd20 ct20 : Value}
    {f21 : Addr} {od21 an21 : Option Addr} {sl21 : Array (Option Value)} {oc21 kV21 dc21 pm21 cd21 ct21 : Value}
    {f22 : Addr} {od22 an22 : Option Addr} {sl22 : Array (Option Value)} {oc22 kV22 dc22 pm22 cd22 ct22 : Value}
    {f23 : Addr} {od23 an23 : Option Addr} {sl23 : Array (Option Value)} {oc23 kV23 dc23 pm23 cd23 ct23 : Value}
    {f24 : Addr} {od24 an24 : Option Addr} {sl24 : Array (Option Value)} {oc24 kV24 dc24 pm24 cd24 ct24 : Value}
    {f25 : Addr} {od25 an25 : Option Addr} {sl25 : Array (Option Value)} {oc25 kV25 dc25 pm25 cd25 ct25 : Value}
    {f26 : Addr} {od26 an26 : Option Addr} {sl26 : Array (Option Value)} {oc26 kV26 dc26 pm26 cd26 ct26 : Value}
    {f27 : Addr} {od27 an27 : Option Addr} {sl27 : Array (Option Value)} {oc27 kV27 dc27 pm27 cd27 ct27 : Value}
    {f28 : Addr} {od28 an28 : Option Addr} {sl28 : Array (Option Value)} {oc28 kV28 dc28 pm28 cd28 ct28 : Value}
    {f29 : Addr} {od29 an29 : Option Addr} {sl29 : Array (Option Value)} {oc29 kV29 dc29 pm29 cd29 ct29 : Value}
    {f30 : Addr} {od30 an30 : Option Addr} {sl30 : Array (Option Value)} {oc30 kV30 dc30 pm30 cd30 ct30 : Value}
    {f31 : Addr} {od31 an31 : Option Addr} {sl31 : Array (Option Value)} {oc31 kV31 dc31 pm31 cd31 ct31 : Value}
    {f32 : Addr} {od32 an32 : Option Addr} {sl32 : Array (Option Value)} {oc32 kV32 dc32 pm32 cd32 ct32 : Value}
    {f33 : Addr} {od33 an33 : Option Addr} {sl33 : Array (Option Value)} {oc33 kV33 dc33 pm33 cd33 ct33 : Value}
    {t_OUTPUT_LIMIT : Tok}
    {t_TOLD_STATES : Tok}
    {A_QUANTIFIERS : Addr} {dd_QUANTIFIERS : Option Addr} {its_QUANTIFIERS : Array Value} {n_QUANTIFIERS : Nat} {sl_QUANTIFIERS : Array (Option Value)}
    {CCl fI_Clashing : Addr} {nm_Clashing q_Clashing : Str} {N_Clashing : Addr} {bs_Clashing bm_Clashing : List Value} {sn_Clashing : List Str} {sub_Clashing : List Value} {ab_Clashing : Bool} {col_Clashing : Option Bool} {dd_Clashing : Option Addr} {m0_Clashing m1_Clashing m2_Clashing m3_Clashing m5_Clashing : Option Value} {odi_Clashing ani_Clashing : Option Addr} {sli_Clashing : Array (Option Value)} {oci_Clashing kVi_Clashing dci_Clashing pmi_Clashing cdi_Clashing cti_Clashing : Value}
    {CUn fI_Unknown : Addr} {nm_Unknown q_Unknown : Str} {N_Unknown : Addr} {bs_Unknown bm_Unknown : List Value} {sn_Unknown : List Str} {sub_Unknown : List Value} {ab_Unknown : Bool} {col_Unknown : Option Bool} {dd_Unknown : Option Addr} {m0_Unknown m1_Unknown m2_Unknown m3_Unknown m5_Unknown : Option Value} {odi_Unknown ani_Unknown : Option Addr} {sli_Unknown : Array (Option Value)} {oci_Unknown kVi_Unknown dci_Unknown pmi_Unknown cdi_Unknown cti_Unknown : Value}
    {CMis fI_Misused : Addr} {nm_Misused q_Misused : Str} {N_Misused : Addr} {bs_Misused bm_Misused : List Value} {sn_Misused : List Str} {sub_Misused : List Value} {ab_Misused : Bool} {col_Misused : Option Bool} {dd_Misused : Option Addr} {m0_Misused m1_Misused m2_Misused m3_Misused m5_Misused : Option Value} {odi_Misused ani_Misused : Option Addr} {sli_Misused : Array (Option Value)} {oci_Misused kVi_Misused dci_Misused pmi_Misused cdi_Misused cti_Misused : Value}
      {aC : Addr} {esC : Array DictEntry} {nC : Nat} {aJ : Addr} {esJ : Array DictEntry} {nJ : Nat}
    (aC_Book : PySem.W.nsIn K mainGlobals "Book" = some (some (.ref CB))) (pg_Book : PySem.W.plainGet K CB Str.empty = true) (hd_Book : PySem.W.hasDictIn K CB = true) (po_Book : PySem.W.plainOver K CB = true) (sa_Book : PySem.W.findIn K (.ref CB) "__setattr__" = some (some (.builtin "object.__setattr__"))) (mk_Book : PySem.W.makesIn K CB = true) (kc_Book : PySem.W.keepIn K (.ref CB) = true) (no0_Book : PySem.W.findIn K (.ref CB) "_definitions" = some none) (no1_Book : PySem.W.findIn K (.ref CB) "_words" = some none)
    (aC_Told : PySem.W.nsIn K mainGlobals "Told" = some (some (.ref CT))) (pg_Told : PySem.W.plainGet K CT Str.empty = true) (hd_Told : PySem.W.hasDictIn K CT = true) (po_Told : PySem.W.plainOver K CT = true) (sa_Told : PySem.W.findIn K (.ref CT) "__setattr__" = some (some (.builtin "object.__setattr__"))) (mk_Told : PySem.W.makesIn K CT = true) (kc_Told : PySem.W.keepIn K (.ref CT) = true) (no0_Told : PySem.W.findIn K (.ref CT) "outputs" = some none) (no1_Told : PySem.W.findIn K (.ref CT) "table" = some none)
    (a0 : PySem.W.nsIn K mainGlobals "_law_wide" = some (some (.ref f0))) (l0 : K.lookup f0 = some ⟨oc0, od0, .func (PySem.W.fnOf "_law_wide" "_law_wide" (C8.fnArgs s__law_wide) (C8.fnBody s__law_wide) (C8.fnScope s__law_wide) .none kV0 dc0 pm0 an0 cd0 ct0), sl0⟩) (c0 : PySem.W.codeIn K cd0 "_law_wide" = true) (k0 : PySem.W.keepIn K (.ref f0) = true)
    (a1 : PySem.W.nsIn K mainGlobals "_law_take" = some (some (.ref f1))) (l1 : K.lookup f1 = some ⟨oc1, od1, .func (PySem.W.fnOf "_law_take" "_law_take" (C8.fnArgs s__law_take) (C8.fnBody s__law_take) (C8.fnScope s__law_take) .none kV1 dc1 pm1 an1 cd1 ct1), sl1⟩) (c1 : PySem.W.codeIn K cd1 "_law_take" = true) (k1 : PySem.W.keepIn K (.ref f1) = true)
    (a2 : PySem.W.nsIn K mainGlobals "_law_pool" = some (some (.ref f2))) (l2 : K.lookup f2 = some ⟨oc2, od2, .func (PySem.W.fnOf "_law_pool" "_law_pool" (C8.fnArgs s__law_pool) (C8.fnBody s__law_pool) (C8.fnScope s__law_pool) .none kV2 dc2 pm2 an2 cd2 ct2), sl2⟩) (c2 : PySem.W.codeIn K cd2 "_law_pool" = true) (k2 : PySem.W.keepIn K (.ref f2) = true)
    (a3 : PySem.W.nsIn K mainGlobals "_law_reserved" = some (some (.ref f3))) (l3 : K.lookup f3 = some ⟨oc3, od3, .func (PySem.W.fnOf "_law_reserved" "_law_reserved" (C8.fnArgs s__law_reserved) (C8.fnBody s__law_reserved) (C8.fnScope s__law_reserved) .none kV3 dc3 pm3 an3 cd3 ct3), sl3⟩) (c3 : PySem.W.codeIn K cd3 "_law_reserved" = true) (k3 : PySem.W.keepIn K (.ref f3) = true)
    (a4 : PySem.W.nsIn K mainGlobals "_law_name" = some (some (.ref f4))) (l4 : K.lookup f4 = some ⟨oc4, od4, .func (PySem.W.fnOf "_law_name" "_law_name" (C8.fnArgs s__law_name) (C8.fnBody s__law_name) (C8.fnScope s__law_name) .none kV4 dc4 pm4 an4 cd4 ct4), sl4⟩) (c4 : PySem.W.codeIn K cd4 "_law_name" = true) (k4 : PySem.W.keepIn K (.ref f4) = true)
    (a5 : PySem.W.nsIn K mainGlobals "_law_term" = some (some (.ref f5))) (l5 : K.lookup f5 = some ⟨oc5, od5, .func (PySem.W.fnOf "_law_term" "_law_term" (C8.fnArgs s__law_term) (C8.fnBody s__law_term) (C8.fnScope s__law_term) .none kV5 dc5 pm5 an5 cd5 ct5), sl5⟩) (c5 : PySem.W.codeIn K cd5 "_law_term" = true) (k5 : PySem.W.keepIn K (.ref f5) = true)
    (a6 : PySem.W.nsIn K mainGlobals "_law_formula" = some (some (.ref f6))) (l6 : K.lookup f6 = some ⟨oc6, od6, .func (PySem.W.fnOf "_law_formula" "_law_formula" (C8.fnArgs s__law_formula) (C8.fnBody s__law_formula) (C8.fnScope s__law_formula) .none kV6 dc6 pm6 an6 cd6 ct6), sl6⟩) (c6 : PySem.W.codeIn K cd6 "_law_formula" = true) (k6 : PySem.W.keepIn K (.ref f6) = true)
    (a7 : PySem.W.nsIn K mainGlobals "parts" = some (some (.ref f7))) (l7 : K.lookup f7 = some ⟨oc7, od7, .func (PySem.W.fnOf "parts" "parts" (C8.fnArgs s_parts) (C8.fnBody s_parts) (C8.fnScope s_parts) .none kV7 dc7 pm7 an7 cd7 ct7), sl7⟩) (c7 : PySem.W.codeIn K cd7 "parts" = true) (k7 : PySem.W.keepIn K (.ref f7) = true)
    (a8 : PySem.W.nsIn K mainGlobals "own_names" = some (some (.ref f8))) (l8 : K.lookup f8 = some ⟨oc8, od8, .func (PySem.W.fnOf "own_names" "own_names" (C8.fnArgs s_own_names) (C8.fnBody s_own_names) (C8.fnScope s_own_names) .none kV8 dc8 pm8 an8 cd8 ct8), sl8⟩) (c8 : PySem.W.codeIn K cd8 "own_names" = true) (k8 : PySem.W.keepIn K (.ref f8) = true)
    (a9 : PySem.W.nsIn K mainGlobals "nodes" = some (some (.ref f9))) (l9 : K.lookup f9 = some ⟨oc9, od9, .func (PySem.W.fnOf "nodes" "nodes" (C8.fnArgs s_nodes) (C8.fnBody s_nodes) (C8.fnScope s_nodes) .none kV9 dc9 pm9 an9 cd9 ct9), sl9⟩) (c9 : PySem.W.codeIn K cd9 "nodes" = true) (k9 : PySem.W.keepIn K (.ref f9) = true)
    (a10 : PySem.W.nsIn K mainGlobals "free_names" = some (some (.ref f10))) (l10 : K.lookup f10 = some ⟨oc10, od10, .func (PySem.W.fnOf "free_names" "free_names" (C8.fnArgs s_free_names) (C8.fnBody s_free_names) (C8.fnScope s_free_names) .none kV10 dc10 pm10 an10 cd10 ct10), sl10⟩) (c10 : PySem.W.codeIn K cd10 "free_names" = true) (k10 : PySem.W.keepIn K (.ref f10) = true)
    (a11 : PySem.W.findIn K (.ref CB) "__init__" = some (some (.ref f11))) (i11 : PySem.W.isFn K (.ref f11) = true) (l11 : K.lookup f11 = some ⟨oc11, od11, .func (PySem.W.fnOf "__init__" "Book.__init__" (C8.fnArgs s_Book___init__) (C8.fnBody s_Book___init__) (C8.fnScope s_Book___init__) .none kV11 dc11 pm11 an11 cd11 ct11), sl11⟩) (c11 : PySem.W.codeIn K cd11 "Book.__init__" = true) (k11 : PySem.W.keepIn K (.ref f11) = true)
    (a12 : PySem.W.findIn K (.ref CB) "has_definition" = some (some (.ref f12))) (i12 : PySem.W.isFn K (.ref f12) = true) (l12 : K.lookup f12 = some ⟨oc12, od12, .func (PySem.W.fnOf "has_definition" "Book.has_definition" (C8.fnArgs s_Book_has_definition) (C8.fnBody s_Book_has_definition) (C8.fnScope s_Book_has_definition) .none kV12 dc12 pm12 an12 cd12 ct12), sl12⟩) (c12 : PySem.W.codeIn K cd12 "Book.has_definition" = true) (k12 : PySem.W.keepIn K (.ref f12) = true)
    (a13 : PySem.W.findIn K (.ref CB) "has_word" = some (some (.ref f13))) (i13 : PySem.W.isFn K (.ref f13) = true) (l13 : K.lookup f13 = some ⟨oc13, od13, .func (PySem.W.fnOf "has_word" "Book.has_word" (C8.fnArgs s_Book_has_word) (C8.fnBody s_Book_has_word) (C8.fnScope s_Book_has_word) .none kV13 dc13 pm13 an13 cd13 ct13), sl13⟩) (c13 : PySem.W.codeIn K cd13 "Book.has_word" = true) (k13 : PySem.W.keepIn K (.ref f13) = true)
    (a14 : PySem.W.findIn K (.ref CB) "definitions" = some (some (.ref f14))) (i14 : PySem.W.isFn K (.ref f14) = true) (l14 : K.lookup f14 = some ⟨oc14, od14, .func (PySem.W.fnOf "definitions" "Book.definitions" (C8.fnArgs s_Book_definitions) (C8.fnBody s_Book_definitions) (C8.fnScope s_Book_definitions) .none kV14 dc14 pm14 an14 cd14 ct14), sl14⟩) (c14 : PySem.W.codeIn K cd14 "Book.definitions" = true) (k14 : PySem.W.keepIn K (.ref f14) = true)
    (a15 : PySem.W.findIn K (.ref CB) "words" = some (some (.ref f15))) (i15 : PySem.W.isFn K (.ref f15) = true) (l15 : K.lookup f15 = some ⟨oc15, od15, .func (PySem.W.fnOf "words" "Book.words" (C8.fnArgs s_Book_words) (C8.fnBody s_Book_words) (C8.fnScope s_Book_words) .none kV15 dc15 pm15 an15 cd15 ct15), sl15⟩) (c15 : PySem.W.codeIn K cd15 "Book.words" = true) (k15 : PySem.W.keepIn K (.ref f15) = true)
    (a16 : PySem.W.findIn K (.ref CB) "parameters" = some (some (.ref f16))) (i16 : PySem.W.isFn K (.ref f16) = true) (l16 : K.lookup f16 = some ⟨oc16, od16, .func (PySem.W.fnOf "parameters" "Book.parameters" (C8.fnArgs s_Book_parameters) (C8.fnBody s_Book_parameters) (C8.fnScope s_Book_parameters) .none kV16 dc16 pm16 an16 cd16 ct16), sl16⟩) (c16 : PySem.W.codeIn K cd16 "Book.parameters" = true) (k16 : PySem.W.keepIn K (.ref f16) = true)
    (a17 : PySem.W.findIn K (.ref CB) "formula" = some (some (.ref f17))) (i17 : PySem.W.isFn K (.ref f17) = true) (l17 : K.lookup f17 = some ⟨oc17, od17, .func (PySem.W.fnOf "formula" "Book.formula" (C8.fnArgs s_Book_formula) (C8.fnBody s_Book_formula) (C8.fnScope s_Book_formula) .none kV17 dc17 pm17 an17 cd17 ct17), sl17⟩) (c17 : PySem.W.codeIn K cd17 "Book.formula" = true) (k17 : PySem.W.keepIn K (.ref f17) = true)
    (a18 : PySem.W.nsIn K mainGlobals "check_formula" = some (some (.ref f18))) (l18 : K.lookup f18 = some ⟨oc18, od18, .func (PySem.W.fnOf "check_formula" "check_formula" (C8.fnArgs s_check_formula) (C8.fnBody s_check_formula) (C8.fnScope s_check_formula) .none kV18 dc18 pm18 an18 cd18 ct18), sl18⟩) (c18 : PySem.W.codeIn K cd18 "check_formula" = true) (k18 : PySem.W.keepIn K (.ref f18) = true)
    (a19 : PySem.W.findIn K (.ref CB) "define" = some (some (.ref f19))) (i19 : PySem.W.isFn K (.ref f19) = true) (l19 : K.lookup f19 = some ⟨oc19, od19, .func (PySem.W.fnOf "define" "Book.define" (C8.fnArgs s_Book_define) (C8.fnBody s_Book_define) (C8.fnScope s_Book_define) .none kV19 dc19 pm19 an19 cd19 ct19), sl19⟩) (c19 : PySem.W.codeIn K cd19 "Book.define" = true) (k19 : PySem.W.keepIn K (.ref f19) = true)
    (a20 : PySem.W.findIn K (.ref CB) "tell" = some (some (.ref f20))) (i20 : PySem.W.isFn K (.ref f20) = true) (l20 : K.lookup f20 = some ⟨oc20, od20, .func (PySem.W.fnOf "tell" "Book.tell" (C8.fnArgs s_Book_tell) (C8.fnBody s_Book_tell) (C8.fnScope s_Book_tell) .none kV20 dc20 pm20 an20 cd20 ct20), sl20⟩) (c20 : PySem.W.codeIn K cd20 "Book.tell" = true) (k20 : PySem.W.keepIn K (.ref f20) = true)
    (a21 : PySem.W.findIn K (.ref CB) "told" = some (some (.ref f21))) (i21 : PySem.W.isFn K (.ref f21) = true) (l21 : K.lookup f21 = some ⟨oc21, od21, .func (PySem.W.fnOf "told" "Book.told" (C8.fnArgs s_Book_told) (C8.fnBody s_Book_told) (C8.fnScope s_Book_told) .none kV21 dc21 pm21 an21 cd21 ct21), sl21⟩) (c21 : PySem.W.codeIn K cd21 "Book.told" = true) (k21 : PySem.W.keepIn K (.ref f21) = true)
    (a22 : PySem.W.nsIn K mainGlobals "is_state" = some (some (.ref f22))) (l22 : K.lookup f22 = some ⟨oc22, od22, .func (PySem.W.fnOf "is_state" "is_state" (C8.fnArgs s_is_state) (C8.fnBody s_is_state) (C8.fnScope s_is_state) .none kV22 dc22 pm22 an22 cd22 ct22), sl22⟩) (c22 : PySem.W.codeIn K cd22 "is_state" = true) (k22 : PySem.W.keepIn K (.ref f22) = true)
    (a23 : PySem.W.nsIn K mainGlobals "is_table" = some (some (.ref f23))) (l23 : K.lookup f23 = some ⟨oc23, od23, .func (PySem.W.fnOf "is_table" "is_table" (C8.fnArgs s_is_table) (C8.fnBody s_is_table) (C8.fnScope s_is_table) .none kV23 dc23 pm23 an23 cd23 ct23), sl23⟩) (c23 : PySem.W.codeIn K cd23 "is_table" = true) (k23 : PySem.W.keepIn K (.ref f23) = true)
    (a24 : PySem.W.nsIn K mainGlobals "is_output" = some (some (.ref f24))) (l24 : K.lookup f24 = some ⟨oc24, od24, .func (PySem.W.fnOf "is_output" "is_output" (C8.fnArgs s_is_output) (C8.fnBody s_is_output) (C8.fnScope s_is_output) .none kV24 dc24 pm24 an24 cd24 ct24), sl24⟩) (c24 : PySem.W.codeIn K cd24 "is_output" = true) (k24 : PySem.W.keepIn K (.ref f24) = true)
    (a25 : PySem.W.findIn K (.ref CT) "__init__" = some (some (.ref f25))) (i25 : PySem.W.isFn K (.ref f25) = true) (l25 : K.lookup f25 = some ⟨oc25, od25, .func (PySem.W.fnOf "__init__" "Told.__init__" (C8.fnArgs s_Told___init__) (C8.fnBody s_Told___init__) (C8.fnScope s_Told___init__) .none kV25 dc25 pm25 an25 cd25 ct25), sl25⟩) (c25 : PySem.W.codeIn K cd25 "Told.__init__" = true) (k25 : PySem.W.keepIn K (.ref f25) = true)
    (a26 : PySem.W.nsIn K mainGlobals "_law_parts" = some (some (.ref f26))) (l26 : K.lookup f26 = some ⟨oc26, od26, .func (PySem.W.fnOf "_law_parts" "_law_parts" (C8.fnArgs s__law_parts) (C8.fnBody s__law_parts) (C8.fnScope s__law_parts) .none kV26 dc26 pm26 an26 cd26 ct26), sl26⟩) (c26 : PySem.W.codeIn K cd26 "_law_parts" = true) (k26 : PySem.W.keepIn K (.ref f26) = true)
    (a27 : PySem.W.nsIn K mainGlobals "_law_own" = some (some (.ref f27))) (l27 : K.lookup f27 = some ⟨oc27, od27, .func (PySem.W.fnOf "_law_own" "_law_own" (C8.fnArgs s__law_own) (C8.fnBody s__law_own) (C8.fnScope s__law_own) .none kV27 dc27 pm27 an27 cd27 ct27), sl27⟩) (c27 : PySem.W.codeIn K cd27 "_law_own" = true) (k27 : PySem.W.keepIn K (.ref f27) = true)
    (a28 : PySem.W.nsIn K mainGlobals "_law_free" = some (some (.ref f28))) (l28 : K.lookup f28 = some ⟨oc28, od28, .func (PySem.W.fnOf "_law_free" "_law_free" (C8.fnArgs s__law_free) (C8.fnBody s__law_free) (C8.fnScope s__law_free) .none kV28 dc28 pm28 an28 cd28 ct28), sl28⟩) (c28 : PySem.W.codeIn K cd28 "_law_free" = true) (k28 : PySem.W.keepIn K (.ref f28) = true)
    (a29 : PySem.W.nsIn K mainGlobals "_law_fault" = some (some (.ref f29))) (l29 : K.lookup f29 = some ⟨oc29, od29, .func (PySem.W.fnOf "_law_fault" "_law_fault" (C8.fnArgs s__law_fault) (C8.fnBody s__law_fault) (C8.fnScope s__law_fault) .none kV29 dc29 pm29 an29 cd29 ct29), sl29⟩) (c29 : PySem.W.codeIn K cd29 "_law_fault" = true) (k29 : PySem.W.keepIn K (.ref f29) = true)
    (a30 : PySem.W.nsIn K mainGlobals "_law_due" = some (some (.ref f30))) (l30 : K.lookup f30 = some ⟨oc30, od30, .func (PySem.W.fnOf "_law_due" "_law_due" (C8.fnArgs s__law_due) (C8.fnBody s__law_due) (C8.fnScope s__law_due) .none kV30 dc30 pm30 an30 cd30 ct30), sl30⟩) (c30 : PySem.W.codeIn K cd30 "_law_due" = true) (k30 : PySem.W.keepIn K (.ref f30) = true)
    (a31 : PySem.W.nsIn K mainGlobals "_law_told" = some (some (.ref f31))) (l31 : K.lookup f31 = some ⟨oc31, od31, .func (PySem.W.fnOf "_law_told" "_law_told" (C8.fnArgs s__law_told) (C8.fnBody s__law_told) (C8.fnScope s__law_told) .none kV31 dc31 pm31 an31 cd31 ct31), sl31⟩) (c31 : PySem.W.codeIn K cd31 "_law_told" = true) (k31 : PySem.W.keepIn K (.ref f31) = true)
    (a32 : PySem.W.nsIn K mainGlobals "_law_tells" = some (some (.ref f32))) (l32 : K.lookup f32 = some ⟨oc32, od32, .func (PySem.W.fnOf "_law_tells" "_law_tells" (C8.fnArgs s__law_tells) (C8.fnBody s__law_tells) (C8.fnScope s__law_tells) .none kV32 dc32 pm32 an32 cd32 ct32), sl32⟩) (c32 : PySem.W.codeIn K cd32 "_law_tells" = true) (k32 : PySem.W.keepIn K (.ref f32) = true)
    (a33 : PySem.W.nsIn K mainGlobals "law" = some (some (.ref f33))) (l33 : K.lookup f33 = some ⟨oc33, od33, .func (PySem.W.fnOf "law" "law" (C8.fnArgs s_law) (C8.fnBody s_law) (C8.fnScope s_law) .none kV33 dc33 pm33 an33 cd33 ct33), sl33⟩) (c33 : PySem.W.codeIn K cd33 "law" = true) (k33 : PySem.W.keepIn K (.ref f33) = true)
    (zz_abs : PySem.W.nsIn K mainGlobals "abs" = some none)
    (zz_all : PySem.W.nsIn K mainGlobals "all" = some none)
    (zz_bool : PySem.W.nsIn K mainGlobals "bool" = some none)
    (zz_enumerate : PySem.W.nsIn K mainGlobals "enumerate" = some none)
    (zz_int : PySem.W.nsIn K mainGlobals "int" = some none)
    (zz_isinstance : PySem.W.nsIn K mainGlobals "isinstance" = some none)
    (zz_len : PySem.W.nsIn K mainGlobals "len" = some none)
    (zz_list : PySem.W.nsIn K mainGlobals "list" = some none)
    (zz_range : PySem.W.nsIn K mainGlobals "range" = some none)
    (zz_reversed : PySem.W.nsIn K mainGlobals "reversed" = some none)
    (zz_set : PySem.W.nsIn K mainGlobals "set" = some none)
    (zz_sorted : PySem.W.nsIn K mainGlobals "sorted" = some none)
    (zz_tuple : PySem.W.nsIn K mainGlobals "tuple" = some none)
    (gg_OUTPUT_LIMIT : PySem.W.nsIn K mainGlobals "OUTPUT_LIMIT" = some (some (.int 9 t_OUTPUT_LIMIT)))
    (gg_TOLD_STATES : PySem.W.nsIn K mainGlobals "TOLD_STATES" = some (some (.int 40 t_TOLD_STATES)))
    (gg_QUANTIFIERS : PySem.W.nsIn K mainGlobals "QUANTIFIERS" = some (some (.ref A_QUANTIFIERS))) (gl_QUANTIFIERS : K.lookup A_QUANTIFIERS = some ⟨.type "tuple", dd_QUANTIFIERS, .seq its_QUANTIFIERS n_QUANTIFIERS, sl_QUANTIFIERS⟩) (gv_QUANTIFIERS : Vals ([cs "some", cs "all"].map vS) its_QUANTIFIERS.toList) (gz_QUANTIFIERS : its_QUANTIFIERS.size ≤ sizeLine)
    (xa_Clashing : PySem.W.nsIn K mainGlobals "Clashing" = some (some (.ref CCl))) (xc_Clashing : K.lookup CCl = some (excClassObj nm_Clashing q_Clashing CCl N_Clashing bs_Clashing bm_Clashing true sn_Clashing sub_Clashing ab_Clashing col_Clashing dd_Clashing m0_Clashing m1_Clashing m2_Clashing m3_Clashing m5_Clashing "ValueError.__new__")) (xr_Clashing : PySem.HandSPX.refsVE bm_Clashing = true) (xs_Clashing : PySem.W.findIn K (.ref CCl) "__setattr__" = some (some (.builtin "object.__setattr__"))) (xg_Clashing : PySem.W.findIn K (.ref CCl) "__getattribute__" = some (some (.builtin "BaseException.__getattribute__"))) (xh_Clashing : PySem.W.findIn K (.ref CCl) "__getattr__" = some none) (xn_Clashing : PySem.W.findIn K (.ref CCl) "name" = some none) (xi_Clashing : PySem.W.findIn K (.ref CCl) "__init__" = some (some (.ref fI_Clashing))) (xt_Clashing : PySem.W.typeIn K (.ref fI_Clashing) = some (.type "function")) (xl_Clashing : K.lookup fI_Clashing = some ⟨oci_Clashing, odi_Clashing, .func (PySem.W.fnOf "__init__" "Clashing.__init__" (C8.fnArgs si_Clashing) (C8.fnBody si_Clashing) (C8.fnScope si_Clashing) .none kVi_Clashing dci_Clashing pmi_Clashing ani_Clashing cdi_Clashing cti_Clashing), sli_Clashing⟩) (xq_Clashing : PySem.W.codeIn K cdi_Clashing "Clashing.__init__" = true) (xk_Clashing : PySem.W.keepIn K (.ref CCl) = true) (xe_Clashing : PySem.W.subIn K (.ref CCl) (.type "BaseException") = some true) (xy_Clashing : PySem.W.typeIn K (.ref CCl) = some (.type "type")) (xd_Clashing : PySem.W.hasDictIn K CCl = true) (xz_Clashing : PySem.W.isClsIn K CCl = true)
    (xa_Unknown : PySem.W.nsIn K mainGlobals "Unknown" = some (some (.ref CUn))) (xc_Unknown : K.lookup CUn = some (excClassObj nm_Unknown q_Unknown CUn N_Unknown bs_Unknown bm_Unknown true sn_Unknown sub_Unknown ab_Unknown col_Unknown dd_Unknown m0_Unknown m1_Unknown m2_Unknown m3_Unknown m5_Unknown "ValueError.__new__")) (xr_Unknown : PySem.HandSPX.refsVE bm_Unknown = true) (xs_Unknown : PySem.W.findIn K (.ref CUn) "__setattr__" = some (some (.builtin "object.__setattr__"))) (xg_Unknown : PySem.W.findIn K (.ref CUn) "__getattribute__" = some (some (.builtin "BaseException.__getattribute__"))) (xh_Unknown : PySem.W.findIn K (.ref CUn) "__getattr__" = some none) (xn_Unknown : PySem.W.findIn K (.ref CUn) "name" = some none) (xi_Unknown : PySem.W.findIn K (.ref CUn) "__init__" = some (some (.ref fI_Unknown))) (xt_Unknown : PySem.W.typeIn K (.ref fI_Unknown) = some (.type "function")) (xl_Unknown : K.lookup fI_Unknown = some ⟨oci_Unknown, odi_Unknown, .func (PySem.W.fnOf "__init__" "Unknown.__init__" (C8.fnArgs si_Unknown) (C8.fnBody si_Unknown) (C8.fnScope si_Unknown) .none kVi_Unknown dci_Unknown pmi_Unknown ani_Unknown cdi_Unknown cti_Unknown), sli_Unknown⟩) (xq_Unknown : PySem.W.codeIn K cdi_Unknown "Unknown.__init__" = true) (xk_Unknown : PySem.W.keepIn K (.ref CUn) = true) (xe_Unknown : PySem.W.subIn K (.ref CUn) (.type "BaseException") = some true) (xy_Unknown : PySem.W.typeIn K (.ref CUn) = some (.type "type")) (xd_Unknown : PySem.W.hasDictIn K CUn = true) (xz_Unknown : PySem.W.isClsIn K CUn = true)
    (xa_Misused : PySem.W.nsIn K mainGlobals "Misused" = some (some (.ref CMis))) (xc_Misused : K.lookup CMis = some (excClassObj nm_Misused q_Misused CMis N_Misused bs_Misused bm_Misused true sn_Misused sub_Misused ab_Misused col_Misused dd_Misused m0_Misused m1_Misused m2_Misused m3_Misused m5_Misused "ValueError.__new__")) (xr_Misused : PySem.HandSPX.refsVE bm_Misused = true) (xs_Misused : PySem.W.findIn K (.ref CMis) "__setattr__" = some (some (.builtin "object.__setattr__"))) (xg_Misused : PySem.W.findIn K (.ref CMis) "__getattribute__" = some (some (.builtin "BaseException.__getattribute__"))) (xh_Misused : PySem.W.findIn K (.ref CMis) "__getattr__" = some none) (xn_Misused : PySem.W.findIn K (.ref CMis) "why" = some none) (xi_Misused : PySem.W.findIn K (.ref CMis) "__init__" = some (some (.ref fI_Misused))) (xt_Misused : PySem.W.typeIn K (.ref fI_Misused) = some (.type "function")) (xl_Misused : K.lookup fI_Misused = some ⟨oci_Misused, odi_Misused, .func (PySem.W.fnOf "__init__" "Misused.__init__" (C8.fnArgs si_Misused) (C8.fnBody si_Misused) (C8.fnScope si_Misused) .none kVi_Misused dci_Misused pmi_Misused ani_Misused cdi_Misused cti_Misused), sli_Misused⟩) (xq_Misused : PySem.W.codeIn K cdi_Misused "Misused.__init__" = true) (xk_Misused : PySem.W.keepIn K (.ref CMis) = true) (xe_Misused : PySem.W.subIn K (.ref CMis) (.type "BaseException") = some true) (xy_Misused : PySem.W.typeIn K (.ref CMis) = some (.type "type")) (xd_Misused : PySem.W.hasDictIn K CMis = true) (xz_Misused : PySem.W.isClsIn K CMis = true)
    (ss_CClCCl : PySem.W.subIn K (.ref CCl) (.ref CCl) = some true)
    (ss_CUnCCl : PySem.W.subIn K (.ref CUn) (.ref CCl) = some false)
    (ss_CMisCCl : PySem.W.subIn K (.ref CMis) (.ref CCl) = some false)
    (ss_CUnCUn : PySem.W.subIn K (.ref CUn) (.ref CUn) = some true)
    (ss_CMisCUn : PySem.W.subIn K (.ref CMis) (.ref CUn) = some false)
    (ss_CMisCMis : PySem.W.subIn K (.ref CMis) (.ref CMis) = some true)
    (gg_COMPARISONS : PySem.W.nsIn K mainGlobals "COMPARISONS" = some (some (.ref aC)))
    (jlC : K.lookup aC = some ⟨.type "dict", none, .dict esC nC, #[]⟩)
    (jkC : PySem.W.KeysLit w.params esC.toList)
    (jwC : (aC == sysModules) = false)
    (ksC : KeysAre esC.toList ["eq", "le"])
    (gg_JOINTS : PySem.W.nsIn K mainGlobals "JOINTS" = some (some (.ref aJ)))
    (jlJ : K.lookup aJ = some ⟨.type "dict", none, .dict esJ nJ, #[]⟩)
    (jkJ : PySem.W.KeysLit w.params esJ.toList)
    (jwJ : (aJ == sysModules) = false)
    (ksJ : KeysAre esJ.toList ["and", "or", "imp", "iff"]) :
    ∃ fd : FuncData, (∀ (s : Shared) (v : Value), BindsTo s fd ⟨[v], []⟩ [("script", v)]) ∧ ∀ base : Heap, K.In base → base.Ns mainGlobals mg → FnOk l.prog w K mg base C8.CX0 8 fa fd ["script"] (spLaw K) := by
  have e := hfa.symm.trans (PySem.W.mg_of X G a33)
  cases e
  have D0 : C8.Def K mg "_law_wide" s__law_wide f0 _ := ⟨⟨_, _, _, _, _, _, _, _, _, _, rfl, l0, c0⟩, PySem.W.mg_of X G a0, k0⟩
  have b0 := C8.Fun.binds D0.fn rfl (ps := ["script", "k"]) fun _ _ _ _ _ _ us hl => match us, hl with | [_, _], _ => rfl
  have D1 : C8.Def K mg "_law_take" s__law_take f1 _ := ⟨⟨_, _, _, _, _, _, _, _, _, _, rfl, l1, c1⟩, PySem.W.mg_of X G a1, k1⟩
  have b1 := C8.Fun.binds D1.fn rfl (ps := ["pool", "most"]) fun _ _ _ _ _ _ us hl => match us, hl with | [_, _], _ => rfl
  have D2 : C8.Def K mg "_law_pool" s__law_pool f2 _ := ⟨⟨_, _, _, _, _, _, _, _, _, _, rfl, l2, c2⟩, PySem.W.mg_of X G a2, k2⟩
  have b2 := C8.Fun.binds D2.fn rfl (ps := ["script"]) fun _ _ _ _ _ _ us hl => match us, hl with | [_], _ => rfl
  have D3 : C8.Def K mg "_law_reserved" s__law_reserved f3 _ := ⟨⟨_, _, _, _, _, _, _, _, _, _, rfl, l3, c3⟩, PySem.W.mg_of X G a3, k3⟩
  have b3 := C8.Fun.binds D3.fn rfl (ps := []) fun _ _ _ _ _ _ us hl => match us, hl with | [], _ => rfl
  have D4 : C8.Def K mg "_law_name" s__law_name f4 _ := ⟨⟨_, _, _, _, _, _, _, _, _, _, rfl, l4, c4⟩, PySem.W.mg_of X G a4, k4⟩
  have b4 := C8.Fun.binds D4.fn rfl (ps := ["pool"]) fun _ _ _ _ _ _ us hl => match us, hl with | [_], _ => rfl
  have D5 : C8.Def K mg "_law_term" s__law_term f5 _ := ⟨⟨_, _, _, _, _, _, _, _, _, _, rfl, l5, c5⟩, PySem.W.mg_of X G a5, k5⟩
  have b5 := C8.Fun.binds D5.fn rfl (ps := ["pool", "names"]) fun _ _ _ _ _ _ us hl => match us, hl with | [_, _], _ => rfl
  have D6 : C8.Def K mg "_law_formula" s__law_formula f6 _ := ⟨⟨_, _, _, _, _, _, _, _, _, _, rfl, l6, c6⟩, PySem.W.mg_of X G a6, k6⟩
  have b6 := C8.Fun.binds D6.fn rfl (ps := ["pool", "names", "depth"]) fun _ _ _ _ _ _ us hl => match us, hl with | [_, _, _], _ => rfl
  have D7 : C8.Def K mg "parts" s_parts f7 _ := ⟨⟨_, _, _, _, _, _, _, _, _, _, rfl, l7, c7⟩, PySem.W.mg_of X G a7, k7⟩
  have b7 := C8.Fun.binds D7.fn rfl (ps := ["formula"]) fun _ _ _ _ _ _ us hl => match us, hl with | [_], _ => rfl
  have D8 : C8.Def K mg "own_names" s_own_names f8 _ := ⟨⟨_, _, _, _, _, _, _, _, _, _, rfl, l8, c8⟩, PySem.W.mg_of X G a8, k8⟩
  have b8 := C8.Fun.binds D8.fn rfl (ps := ["formula"]) fun _ _ _ _ _ _ us hl => match us, hl with | [_], _ => rfl
  have D9 : C8.Def K mg "nodes" s_nodes f9 _ := ⟨⟨_, _, _, _, _, _, _, _, _, _, rfl, l9, c9⟩, PySem.W.mg_of X G a9, k9⟩
  have b9 := C8.Fun.binds D9.fn rfl (ps := ["formula"]) fun _ _ _ _ _ _ us hl => match us, hl with | [_], _ => rfl
  have D10 : C8.Def K mg "free_names" s_free_names f10 _ := ⟨⟨_, _, _, _, _, _, _, _, _, _, rfl, l10, c10⟩, PySem.W.mg_of X G a10, k10⟩
  have b10 := C8.Fun.binds D10.fn rfl (ps := ["formula"]) fun _ _ _ _ _ _ us hl => match us, hl with | [_], _ => rfl
  have F11 : C8.Fun K "__init__" "Book.__init__" s_Book___init__ f11 _ := ⟨_, _, _, _, _, _, _, _, _, _, rfl, l11, c11⟩
  have b11 := C8.Fun.binds F11 rfl (ps := ["self"]) fun _ _ _ _ _ _ us hl => match us, hl with | [_], _ => rfl
  have F12 : C8.Fun K "has_definition" "Book.has_definition" s_Book_has_definition f12 _ := ⟨_, _, _, _, _, _, _, _, _, _, rfl, l12, c12⟩
  have b12 := C8.Fun.binds F12 rfl (ps := ["self", "name"]) fun _ _ _ _ _ _ us hl => match us, hl with | [_, _], _ => rfl
  have F13 : C8.Fun K "has_word" "Book.has_word" s_Book_has_word f13 _ := ⟨_, _, _, _, _, _, _, _, _, _, rfl, l13, c13⟩
  have b13 := C8.Fun.binds F13 rfl (ps := ["self", "word"]) fun _ _ _ _ _ _ us hl => match us, hl with | [_, _], _ => rfl
  have F14 : C8.Fun K "definitions" "Book.definitions" s_Book_definitions f14 _ := ⟨_, _, _, _, _, _, _, _, _, _, rfl, l14, c14⟩
  have b14 := C8.Fun.binds F14 rfl (ps := ["self"]) fun _ _ _ _ _ _ us hl => match us, hl with | [_], _ => rfl
  have F15 : C8.Fun K "words" "Book.words" s_Book_words f15 _ := ⟨_, _, _, _, _, _, _, _, _, _, rfl, l15, c15⟩
  have b15 := C8.Fun.binds F15 rfl (ps := ["self"]) fun _ _ _ _ _ _ us hl => match us, hl with | [_], _ => rfl
  have F16 : C8.Fun K "parameters" "Book.parameters" s_Book_parameters f16 _ := ⟨_, _, _, _, _, _, _, _, _, _, rfl, l16, c16⟩
  have b16 := C8.Fun.binds F16 rfl (ps := ["self", "name"]) fun _ _ _ _ _ _ us hl => match us, hl with | [_, _], _ => rfl
  have F17 : C8.Fun K "formula" "Book.formula" s_Book_formula f17 _ := ⟨_, _, _, _, _, _, _, _, _, _, rfl, l17, c17⟩
  have b17 := C8.Fun.binds F17 rfl (ps := ["self", "name"]) fun _ _ _ _ _ _ us hl => match us, hl with | [_, _], _ => rfl
  have D18 : C8.Def K mg "check_formula" s_check_formula f18 _ := ⟨⟨_, _, _, _, _, _, _, _, _, _, rfl, l18, c18⟩, PySem.W.mg_of X G a18, k18⟩
  have b18 := C8.Fun.binds D18.fn rfl (ps := ["book", "formula"]) fun _ _ _ _ _ _ us hl => match us, hl with | [_, _], _ => rfl
  have F19 : C8.Fun K "define" "Book.define" s_Book_define f19 _ := ⟨_, _, _, _, _, _, _, _, _, _, rfl, l19, c19⟩
  have b19 := C8.Fun.binds F19 rfl (ps := ["self", "name", "parameters", "formula"]) fun _ _ _ _ _ _ us hl => match us, hl with | [_, _, _, _], _ => rfl
  have F20 : C8.Fun K "tell" "Book.tell" s_Book_tell f20 _ := ⟨_, _, _, _, _, _, _, _, _, _, rfl, l20, c20⟩
  have b20 := C8.Fun.binds F20 rfl (ps := ["self", "word", "told"]) fun _ _ _ _ _ _ us hl => match us, hl with | [_, _, _], _ => rfl
  have F21 : C8.Fun K "told" "Book.told" s_Book_told f21 _ := ⟨_, _, _, _, _, _, _, _, _, _, rfl, l21, c21⟩
  have b21 := C8.Fun.binds F21 rfl (ps := ["self", "word"]) fun _ _ _ _ _ _ us hl => match us, hl with | [_, _], _ => rfl
  have D22 : C8.Def K mg "is_state" s_is_state f22 _ := ⟨⟨_, _, _, _, _, _, _, _, _, _, rfl, l22, c22⟩, PySem.W.mg_of X G a22, k22⟩
  have b22 := C8.Fun.binds D22.fn rfl (ps := ["value", "size"]) fun _ _ _ _ _ _ us hl => match us, hl with | [_, _], _ => rfl
  have D23 : C8.Def K mg "is_table" s_is_table f23 _ := ⟨⟨_, _, _, _, _, _, _, _, _, _, rfl, l23, c23⟩, PySem.W.mg_of X G a23, k23⟩
  have b23 := C8.Fun.binds D23.fn rfl (ps := ["table", "length"]) fun _ _ _ _ _ _ us hl => match us, hl with | [_, _], _ => rfl
  have D24 : C8.Def K mg "is_output" s_is_output f24 _ := ⟨⟨_, _, _, _, _, _, _, _, _, _, rfl, l24, c24⟩, PySem.W.mg_of X G a24, k24⟩
  have b24 := C8.Fun.binds D24.fn rfl (ps := ["value"]) fun _ _ _ _ _ _ us hl => match us, hl with | [_], _ => rfl
  have F25 : C8.Fun K "__init__" "Told.__init__" s_Told___init__ f25 _ := ⟨_, _, _, _, _, _, _, _, _, _, rfl, l25, c25⟩
  have b25 := C8.Fun.binds F25 rfl (ps := ["self", "outputs", "table"]) fun _ _ _ _ _ _ us hl => match us, hl with | [_, _, _], _ => rfl
  have D26 : C8.Def K mg "_law_parts" s__law_parts f26 _ := ⟨⟨_, _, _, _, _, _, _, _, _, _, rfl, l26, c26⟩, PySem.W.mg_of X G a26, k26⟩
  have b26 := C8.Fun.binds D26.fn rfl (ps := ["formula"]) fun _ _ _ _ _ _ us hl => match us, hl with | [_], _ => rfl
  have D27 : C8.Def K mg "_law_own" s__law_own f27 _ := ⟨⟨_, _, _, _, _, _, _, _, _, _, rfl, l27, c27⟩, PySem.W.mg_of X G a27, k27⟩
  have b27 := C8.Fun.binds D27.fn rfl (ps := ["formula"]) fun _ _ _ _ _ _ us hl => match us, hl with | [_], _ => rfl
  have D28 : C8.Def K mg "_law_free" s__law_free f28 _ := ⟨⟨_, _, _, _, _, _, _, _, _, _, rfl, l28, c28⟩, PySem.W.mg_of X G a28, k28⟩
  have b28 := C8.Fun.binds D28.fn rfl (ps := ["formula"]) fun _ _ _ _ _ _ us hl => match us, hl with | [_], _ => rfl
  have D29 : C8.Def K mg "_law_fault" s__law_fault f29 _ := ⟨⟨_, _, _, _, _, _, _, _, _, _, rfl, l29, c29⟩, PySem.W.mg_of X G a29, k29⟩
  have b29 := C8.Fun.binds D29.fn rfl (ps := ["counts", "words", "formula"]) fun _ _ _ _ _ _ us hl => match us, hl with | [_, _, _], _ => rfl
  have D30 : C8.Def K mg "_law_due" s__law_due f30 _ := ⟨⟨_, _, _, _, _, _, _, _, _, _, rfl, l30, c30⟩, PySem.W.mg_of X G a30, k30⟩
  have b30 := C8.Fun.binds D30.fn rfl (ps := ["counts", "words", "name", "parameters", "formula"]) fun _ _ _ _ _ _ us hl => match us, hl with | [_, _, _, _, _], _ => rfl
  have D31 : C8.Def K mg "_law_told" s__law_told f31 _ := ⟨⟨_, _, _, _, _, _, _, _, _, _, rfl, l31, c31⟩, PySem.W.mg_of X G a31, k31⟩
  have b31 := C8.Fun.binds D31.fn rfl (ps := ["book", "name", "parameters", "formula"]) fun _ _ _ _ _ _ us hl => match us, hl with | [_, _, _, _], _ => rfl
  have D32 : C8.Def K mg "_law_tells" s__law_tells f32 _ := ⟨⟨_, _, _, _, _, _, _, _, _, _, rfl, l32, c32⟩, PySem.W.mg_of X G a32, k32⟩
  have b32 := C8.Fun.binds D32.fn rfl (ps := ["book", "word"]) fun _ _ _ _ _ _ us hl => match us, hl with | [_, _], _ => rfl
  have D33 : C8.Def K mg "law" s_law fa _ := ⟨⟨_, _, _, _, _, _, _, _, _, _, rfl, l33, c33⟩, PySem.W.mg_of X G a33, k33⟩
  have c_CB : Cls K CB := ⟨pg_Book, hd_Book, po_Book, sa_Book⟩
  have nCB__definitions : NoAttr K CB "_definitions" := no0_Book
  have nCB__words : NoAttr K CB "_words" := no1_Book
  have c_CT : Cls K CT := ⟨pg_Told, hd_Told, po_Told, sa_Told⟩
  have nCT_outputs : NoAttr K CT "outputs" := no0_Told
  have nCT_table : NoAttr K CT "table" := no1_Told
  have z_abs := PySem.W.mg_none_of X G zz_abs
  have z_all := PySem.W.mg_none_of X G zz_all
  have z_bool := PySem.W.mg_none_of X G zz_bool
  have z_enumerate := PySem.W.mg_none_of X G zz_enumerate
  have z_int := PySem.W.mg_none_of X G zz_int
  have z_isinstance := PySem.W.mg_none_of X G zz_isinstance
  have z_len := PySem.W.mg_none_of X G zz_len
  have z_list := PySem.W.mg_none_of X G zz_list
  have z_range := PySem.W.mg_none_of X G zz_range
  have z_reversed := PySem.W.mg_none_of X G zz_reversed
  have z_set := PySem.W.mg_none_of X G zz_set
  have z_sorted := PySem.W.mg_none_of X G zz_sorted
  have z_tuple := PySem.W.mg_none_of X G zz_tuple
  have g_OUTPUT_LIMIT : ∃ u, mg "OUTPUT_LIMIT" = some u ∧ RelV (.int 9) u := ⟨_, PySem.W.mg_of X G gg_OUTPUT_LIMIT, _, rfl⟩
  have g_TOLD_STATES : ∃ u, mg "TOLD_STATES" = some u ∧ RelV (.int 40) u := ⟨_, PySem.W.mg_of X G gg_TOLD_STATES, _, rfl⟩
  have g_QUANTIFIERS : ∃ u, mg "QUANTIFIERS" = some u ∧ RelV (.ref A_QUANTIFIERS) u := ⟨_, PySem.W.mg_of X G gg_QUANTIFIERS, rfl⟩
  have q_QUANTIFIERS : ∀ H, SqT K H A_QUANTIFIERS ([cs "some", cs "all"].map vS) := fun H => .inr ⟨_, its_QUANTIFIERS, n_QUANTIFIERS, gl_QUANTIFIERS, rfl, rfl, gz_QUANTIFIERS, gv_QUANTIFIERS⟩
  have T_Clashing : OexC K CCl := ⟨⟨_, _, _, _, _, _, _, _, _, _, _, _, _, _, _, xc_Clashing, xr_Clashing⟩, xs_Clashing, xe_Clashing, xy_Clashing, xk_Clashing⟩
  have F_Clashing : C8.Fun K "__init__" "Clashing.__init__" si_Clashing fI_Clashing _ := ⟨_, _, _, _, _, _, _, _, _, _, rfl, xl_Clashing, xq_Clashing⟩
  have bb_Clashing := C8.Fun.binds F_Clashing rfl (ps := ["self", "name"]) fun _ _ _ _ _ _ us hl => match us, hl with | [_, _], _ => rfl
  have T_Unknown : OexC K CUn := ⟨⟨_, _, _, _, _, _, _, _, _, _, _, _, _, _, _, xc_Unknown, xr_Unknown⟩, xs_Unknown, xe_Unknown, xy_Unknown, xk_Unknown⟩
  have F_Unknown : C8.Fun K "__init__" "Unknown.__init__" si_Unknown fI_Unknown _ := ⟨_, _, _, _, _, _, _, _, _, _, rfl, xl_Unknown, xq_Unknown⟩
  have bb_Unknown := C8.Fun.binds F_Unknown rfl (ps := ["self", "name"]) fun _ _ _ _ _ _ us hl => match us, hl with | [_, _], _ => rfl
  have T_Misused : OexC K CMis := ⟨⟨_, _, _, _, _, _, _, _, _, _, _, _, _, _, _, xc_Misused, xr_Misused⟩, xs_Misused, xe_Misused, xy_Misused, xk_Misused⟩
  have F_Misused : C8.Fun K "__init__" "Misused.__init__" si_Misused fI_Misused _ := ⟨_, _, _, _, _, _, _, _, _, _, rfl, xl_Misused, xq_Misused⟩
  have bb_Misused := C8.Fun.binds F_Misused rfl (ps := ["self", "why"]) fun _ _ _ _ _ _ us hl => match us, hl with | [_, _], _ => rfl
  have ex_CClCCl := exm_of xe_Clashing xz_Clashing xy_Clashing ss_CClCCl
  have ex_CUnCCl := exm_of xe_Clashing xz_Clashing xy_Clashing ss_CUnCCl
  have ex_CMisCCl := exm_of xe_Clashing xz_Clashing xy_Clashing ss_CMisCCl
  have ex_CUnCUn := exm_of xe_Unknown xz_Unknown xy_Unknown ss_CUnCUn
  have ex_CMisCUn := exm_of xe_Unknown xz_Unknown xy_Unknown ss_CMisCUn
  have ex_CMisCMis := exm_of xe_Misused xz_Misused xy_Misused ss_CMisCMis
  refine ⟨PySem.W.fnOf "law" "law" (C8.fnArgs s_law) (C8.fnBody s_law) (C8.fnScope s_law) .none kV33 dc33 pm33 an33 cd33 ct33, fun s v => .of_eq rfl, fun base _ _ => ?_⟩
  have x_Clashing : ExF l.prog w K mg base "Clashing" CCl "name" := ⟨T_Clashing, PySem.W.mg_of X G xa_Clashing, ⟨xg_Clashing, xh_Clashing, xe_Clashing, xd_Clashing⟩, xn_Clashing, _, _, xi_Clashing, xt_Clashing, f_ini_Clashing T_Clashing xn_Clashing F_Clashing, bb_Clashing⟩
  have x_Unknown : ExF l.prog w K mg base "Unknown" CUn "name" := ⟨T_Unknown, PySem.W.mg_of X G xa_Unknown, ⟨xg_Unknown, xh_Unknown, xe_Unknown, xd_Unknown⟩, xn_Unknown, _, _, xi_Unknown, xt_Unknown, f_ini_Unknown T_Unknown xn_Unknown F_Unknown, bb_Unknown⟩
  have x_Misused : ExF l.prog w K mg base "Misused" CMis "why" := ⟨T_Misused, PySem.W.mg_of X G xa_Misused, ⟨xg_Misused, xh_Misused, xe_Misused, xd_Misused⟩, xn_Misused, _, _, xi_Misused, xt_Misused, f_ini_Misused T_Misused xn_Misused F_Misused, bb_Misused⟩
  have g_COMPARISONS : ∃ u, mg "COMPARISONS" = some u ∧ RelV (.ref aC) u := ⟨_, PySem.W.mg_of X G gg_COMPARISONS, rfl⟩
  have kC : KTabl K w aC [cs "eq", cs "le"] := ktabl_of (ks := ["eq", "le"]) jlC jkC jwC ksC
  have g_JOINTS : ∃ u, mg "JOINTS" = some u ∧ RelV (.ref aJ) u := ⟨_, PySem.W.mg_of X G gg_JOINTS, rfl⟩
  have kJ : KTabl K w aJ [cs "and", cs "or", cs "imp", cs "iff"] := ktabl_of (ks := ["and", "or", "imp", "iff"]) jlJ jkJ jwJ ksJ
  have c__law_wide := c__law_wide (P := l.prog) (w := w) (base := base) D0 b0 z_len z_abs z_int
  have c__law_take := c__law_take (P := l.prog) (w := w) (base := base) D1 b1 z_int c__law_wide
  have c__law_pool := c__law_pool (P := l.prog) (w := w) (base := base) D2 b2 z_list
  have c__law_reserved := c__law_reserved (P := l.prog) (w := w) (base := base) D3 b3 
  have c__law_name := c__law_name (P := l.prog) (w := w) (base := base) D4 b4 c__law_take c__law_reserved z_range
  have c__law_term := c__law_term (P := l.prog) (w := w) (base := base) D5 b5 c__law_take z_range z_len z_sorted z_tuple
  have c__law_formula := c__law_formula (P := l.prog) (w := w) (base := base) D6 b6 c__law_take c__law_term z_range z_len z_tuple
  have c_parts := c_parts (P := l.prog) (w := w) (base := base) D7 b7 g_JOINTS kJ g_QUANTIFIERS q_QUANTIFIERS
  have c_own_names := c_own_names (P := l.prog) (w := w) (base := base) D8 b8 g_COMPARISONS kC g_QUANTIFIERS q_QUANTIFIERS z_list
  have c_nodes := c_nodes (P := l.prog) (w := w) (base := base) D9 b9 c_parts z_reversed
  have c_free_names := c_free_names (P := l.prog) (w := w) (base := base) D10 b10 g_QUANTIFIERS q_QUANTIFIERS c_own_names c_parts z_set z_sorted
  have k_Book := k_Book (P := l.prog) (w := w) (base := base) (mg := mg) ⟨mk_Book, a11, i11, kc_Book⟩ (PySem.W.mg_of X G aC_Book) c_CB F11 b11 nCB__definitions nCB__words
  have m_Book_has_definition := m_Book_has_definition (P := l.prog) (w := w) (base := base) (mg := mg) c_CB ⟨a12, i12, k12⟩ F12 b12 nCB__definitions nCB__words
  have m_Book_has_word := m_Book_has_word (P := l.prog) (w := w) (base := base) (mg := mg) c_CB ⟨a13, i13, k13⟩ F13 b13 nCB__definitions nCB__words
  have m_Book_definitions := m_Book_definitions (P := l.prog) (w := w) (base := base) (mg := mg) c_CB ⟨a14, i14, k14⟩ F14 b14 nCB__definitions nCB__words z_list
  have m_Book_words := m_Book_words (P := l.prog) (w := w) (base := base) (mg := mg) c_CB ⟨a15, i15, k15⟩ F15 b15 nCB__definitions nCB__words z_list
  have m_Book_parameters := m_Book_parameters (P := l.prog) (w := w) (base := base) (mg := mg) c_CB ⟨a16, i16, k16⟩ F16 b16 nCB__definitions nCB__words x_Unknown m_Book_has_definition
  have m_Book_formula := m_Book_formula (P := l.prog) (w := w) (base := base) (mg := mg) c_CB ⟨a17, i17, k17⟩ F17 b17 nCB__definitions nCB__words x_Unknown m_Book_has_definition
  have c_check_formula := c_check_formula (P := l.prog) (w := w) (base := base) D18 b18 x_Unknown x_Misused m_Book_has_definition m_Book_has_word m_Book_parameters c_nodes z_len (CCl := CCl)
  have m_Book_define := m_Book_define (P := l.prog) (w := w) (base := base) (mg := mg) c_CB ⟨a19, i19, k19⟩ F19 b19 nCB__definitions nCB__words x_Clashing x_Unknown m_Book_has_definition c_check_formula c_free_names z_enumerate z_tuple
  have m_Book_tell := m_Book_tell (P := l.prog) (w := w) (base := base) (mg := mg) c_CB ⟨a20, i20, k20⟩ F20 b20 nCB__definitions nCB__words x_Clashing m_Book_has_word
  have m_Book_told := m_Book_told (P := l.prog) (w := w) (base := base) (mg := mg) c_CB ⟨a21, i21, k21⟩ F21 b21 nCB__definitions nCB__words x_Unknown m_Book_has_word
  have c_is_state := c_is_state (P := l.prog) (w := w) (base := base) D22 b22 z_isinstance z_int z_bool
  have c_is_table := c_is_table (P := l.prog) (w := w) (base := base) D23 b23 c_is_state z_len z_all
  have c_is_output := c_is_output (P := l.prog) (w := w) (base := base) D24 b24 z_isinstance z_int z_bool g_OUTPUT_LIMIT
  have k_Told := k_Told (P := l.prog) (w := w) (base := base) (mg := mg) ⟨mk_Told, a25, i25, kc_Told⟩ (PySem.W.mg_of X G aC_Told) c_CT F25 b25 nCT_outputs nCT_table c_is_output c_is_table z_len z_enumerate z_list z_all g_TOLD_STATES
  have c__law_parts := c__law_parts (P := l.prog) (w := w) (base := base) D26 b26 
  have c__law_own := c__law_own (P := l.prog) (w := w) (base := base) D27 b27 z_list
  have c__law_free := c__law_free (P := l.prog) (w := w) (base := base) D28 b28 c__law_parts c__law_own
  have c__law_fault := c__law_fault (P := l.prog) (w := w) (base := base) D29 b29 c__law_parts z_len
  have c__law_due := c__law_due (P := l.prog) (w := w) (base := base) D30 b30 (c__law_fault 3) (c__law_free 3) z_range z_len z_sorted
  have c__law_told := c__law_told (P := l.prog) (w := w) (base := base) D31 b31 x_Clashing x_Unknown x_Misused ex_CClCCl ex_CUnCCl ex_CMisCCl ex_CUnCUn ex_CMisCUn ex_CMisCMis c_check_formula m_Book_define
  have c__law_tells := c__law_tells (P := l.prog) (w := w) (base := base) D32 b32 x_Clashing ex_CClCCl m_Book_tell k_Told
  exact f_law D33 c__law_pool c__law_take c__law_name (c__law_formula 3) (c__law_free 3) (c__law_fault 3) c__law_due c_CB c_CT nCT_outputs k_Book c__law_told c__law_tells m_Book_define m_Book_parameters m_Book_formula m_Book_told m_Book_definitions m_Book_words z_range z_len z_tuple
end K08
open PySem PySem.W PyProof.Rows
set_option maxRecDepth 100000 in
set_option maxHeartbeats 0 in
theorem PySem.Challenge.cw_digitwise_k08_book_refusals_holds : PySem.Challenge.rw_digitwise_k08_book_refusals.Holds := by
  w_on; o_law; k_head; (case hw => w_witness2)
  k_fill
  refine L2.walk_of (l := PySem.Challenge.rw_digitwise_k08_book_refusals) (n := 63) (k := 8) (x := "script") (CX := fun _ => C8.CX0) (sp := fun w => K08.spLaw _) rfl (by decide) rfl ⟨rfl, by decide, by decide⟩ (fun w h Y => PySem.W.kIn_of Y) ?F (fun _ _ a ns hl _ hS => ⟨a, ns, rfl, hS, hl, fun _ => rfl⟩) (fun _ _ _ _ _ h => h)
  case F =>
    intro w mg fa h KX G hmg
    refine' K08.all_mk KX G hmg ?aC_Book ?pg_Book ?hd_Book ?po_Book ?sa_Book ?mk_Book ?kc_Book ?no0_Book ?no1_Book ?aC_Told ?pg_Told ?hd_Told ?po_Told ?sa_Told ?mk_Told ?kc_Told ?no0_Told ?no1_Told ?a0 ?l0 ?c0 ?k0 ?a1 ?l1 ?c1 ?k1 ?a2 ?l2 ?c2 ?k2 ?a3 ?l3 ?c3 ?k3 ?a4 ?l4 ?c4 ?k4 ?a5 ?l5 ?c5 ?k5 ?a6 ?l6 ?c6 ?k6 ?a7 ?l7 ?c7 ?k7 ?a8 ?l8 ?c8 ?k8 ?a9 ?l9 ?c9 ?k9 ?a10 ?l10 ?c10 ?k10 ?a11 ?i11 ?l11 ?c11 ?k11 ?a12 ?i12 ?l12 ?c12 ?k12 ?a13 ?i13 ?l13 ?c13 ?k13 ?a14 ?i14 ?l14 ?c14 ?k14 ?a15 ?i15 ?l15 ?c15 ?k15 ?a16 ?i16 ?l16 ?c16 ?k16 ?a17 ?i17 ?l17 ?c17 ?k17 ?a18 ?l18 ?c18 ?k18 ?a19 ?i19 ?l19 ?c19 ?k19 ?a20 ?i20 ?l20 ?c20 ?k20 ?a21 ?i21 ?l21 ?c21 ?k21 ?a22 ?l22 ?c22 ?k22 ?a23 ?l23 ?c23 ?k23 ?a24 ?l24 ?c24 ?k24 ?a25 ?i25 ?l25 ?c25 ?k25 ?a26 ?l26 ?c26 ?k26 ?a27 ?l27 ?c27 ?k27 ?a28 ?l28 ?c28 ?k28 ?a29 ?l29 ?c29 ?k29 ?a30 ?l30 ?c30 ?k30 ?a31 ?l31 ?c31 ?k31 ?a32 ?l32 ?c32 ?k32 ?a33 ?l33 ?c33 ?k33 ?zz_abs ?zz_all ?zz_bool ?zz_enumerate ?zz_int ?zz_isinstance ?zz_len ?zz_list ?zz_range ?zz_reversed ?zz_set ?zz_sorted ?zz_tuple ?gg_OUTPUT_LIMIT ?gg_TOLD_STATES ?gg_QUANTIFIERS ?gl_QUANTIFIERS ?gv_QUANTIFIERS ?gz_QUANTIFIERS ?xa_Clashing ?xc_Clashing ?xr_Clashing ?xs_Clashing ?xg_Clashing ?xh_Clashing ?xn_Clashing ?xi_Clashing ?xt_Clashing ?xl_Clashing ?xq_Clashing ?xk_Clashing ?xe_Clashing ?xy_Clashing ?xd_Clashing ?xz_Clashing ?xa_Unknown ?xc_Unknown ?xr_Unknown ?xs_Unknown ?xg_Unknown ?xh_Unknown ?xn_Unknown ?xi_Unknown ?xt_Unknown ?xl_Unknown ?xq_Unknown ?xk_Unknown ?xe_Unknown ?xy_Unknown ?xd_Unknown ?xz_Unknown ?xa_Misused ?xc_Misused ?xr_Misused ?xs_Misused ?xg_Misused ?xh_Misused ?xn_Misused ?xi_Misused ?xt_Misused ?xl_Misused ?xq_Misused ?xk_Misused ?xe_Misused ?xy_Misused ?xd_Misused ?xz_Misused ?ss_CClCCl ?ss_CUnCCl ?ss_CMisCCl ?ss_CUnCUn ?ss_CMisCUn ?ss_CMisCMis ?gg_COMPARISONS ?jlC ?jkC ?jwC ?ksC ?gg_JOINTS ?jlJ ?jkJ ?jwJ ?ksJ
    (case aC_Book => k_is)
    (case pg_Book => k_is)
    (case hd_Book => k_is)
    (case po_Book => k_is)
    (case sa_Book => k_is)
    (case mk_Book => k_is)
    (case kc_Book => k_is)
    (case no0_Book => k_is)
    (case no1_Book => k_is)
    (case aC_Told => k_is)
    (case pg_Told => k_is)
    (case hd_Told => k_is)
    (case po_Told => k_is)
    (case sa_Told => k_is)
    (case mk_Told => k_is)
    (case kc_Told => k_is)
    (case no0_Told => k_is)
    (case no1_Told => k_is)
    (case a0 => k_is)
    (case l0 => k_is)
    (case c0 => k_is)
    (case k0 => k_is)
    (case a1 => k_is)
    (case l1 => k_is)
    (case c1 => k_is)
    (case k1 => k_is)
    (case a2 => k_is)
    (case l2 => k_is)
    (case c2 => k_is)
    (case k2 => k_is)
    (case a3 => k_is)
    (case l3 => k_is)
    (case c3 => k_is)
    (case k3 => k_is)
    (case a4 => k_is)
    (case l4 => k_is)
    (case c4 => k_is)
    (case k4 => k_is)
    (case a5 => k_is)
    (case l5 => k_is)
    (case c5 => k_is)
    (case k5 => k_is)
    (case a6 => k_is)
    (case l6 => k_is)
    (case c6 => k_is)
    (case k6 => k_is)
    (case a7 => k_is)
    (case l7 => k_is)
    (case c7 => k_is)
    (case k7 => k_is)
    (case a8 => k_is)
    (case l8 => k_is)
    (case c8 => k_is)
    (case k8 => k_is)
    (case a9 => k_is)
    (case l9 => k_is)
    (case c9 => k_is)
    (case k9 => k_is)
    (case a10 => k_is)
    (case l10 => k_is)
    (case c10 => k_is)
    (case k10 => k_is)
    (case a11 => k_is)
    (case i11 => k_is)
    (case l11 => k_is)
    (case c11 => k_is)
    (case k11 => k_is)
    (case a12 => k_is)
    (case i12 => k_is)
    (case l12 => k_is)
    (case c12 => k_is)
    (case k12 => k_is)
    (case a13 => k_is)
    (case i13 => k_is)
    (case l13 => k_is)
    (case c13 => k_is)
    (case k13 => k_is)
    (case a14 => k_is)
    (case i14 => k_is)
    (case l14 => k_is)
    (case c14 => k_is)
    (case k14 => k_is)
    (case a15 => k_is)
    (case i15 => k_is)
    (case l15 => k_is)
    (case c15 => k_is)
    (case k15 => k_is)
    (case a16 => k_is)
    (case i16 => k_is)
    (case l16 => k_is)
    (case c16 => k_is)
    (case k16 => k_is)
    (case a17 => k_is)
    (case i17 => k_is)
    (case l17 => k_is)
    (case c17 => k_is)
    (case k17 => k_is)
    (case a18 => k_is)
    (case l18 => k_is)
    (case c18 => k_is)
    (case k18 => k_is)
    (case a19 => k_is)
    (case i19 => k_is)
    (case l19 => k_is)
    (case c19 => k_is)
    (case k19 => k_is)
    (case a20 => k_is)
    (case i20 => k_is)
    (case l20 => k_is)
    (case c20 => k_is)
    (case k20 => k_is)
    (case a21 => k_is)
    (case i21 => k_is)
    (case l21 => k_is)
    (case c21 => k_is)
    (case k21 => k_is)
    (case a22 => k_is)
    (case l22 => k_is)
    (case c22 => k_is)
    (case k22 => k_is)
    (case a23 => k_is)
    (case l23 => k_is)
    (case c23 => k_is)
    (case k23 => k_is)
    (case a24 => k_is)
    (case l24 => k_is)
    (case c24 => k_is)
    (case k24 => k_is)
    (case a25 => k_is)
    (case i25 => k_is)
    (case l25 => k_is)
    (case c25 => k_is)
    (case k25 => k_is)
    (case a26 => k_is)
    (case l26 => k_is)
    (case c26 => k_is)
    (case k26 => k_is)
    (case a27 => k_is)
    (case l27 => k_is)
    (case c27 => k_is)
    (case k27 => k_is)
    (case a28 => k_is)
    (case l28 => k_is)
    (case c28 => k_is)
    (case k28 => k_is)
    (case a29 => k_is)
    (case l29 => k_is)
    (case c29 => k_is)
    (case k29 => k_is)
    (case a30 => k_is)
    (case l30 => k_is)
    (case c30 => k_is)
    (case k30 => k_is)
    (case a31 => k_is)
    (case l31 => k_is)
    (case c31 => k_is)
    (case k31 => k_is)
    (case a32 => k_is)
    (case l32 => k_is)
    (case c32 => k_is)
    (case k32 => k_is)
    (case a33 => k_is)
    (case l33 => k_is)
    (case c33 => k_is)
    (case k33 => k_is)
    (case zz_abs => k_is)
    (case zz_all => k_is)
    (case zz_bool => k_is)
    (case zz_enumerate => k_is)
    (case zz_int => k_is)
    (case zz_isinstance => k_is)
    (case zz_len => k_is)
    (case zz_list => k_is)
    (case zz_range => k_is)
    (case zz_reversed => k_is)
    (case zz_set => k_is)
    (case zz_sorted => k_is)
    (case zz_tuple => k_is)
    (case gg_OUTPUT_LIMIT => k_is)
    (case gg_TOLD_STATES => k_is)
    (case gg_QUANTIFIERS => k_is)
    (case gl_QUANTIFIERS => k_is)
    (case gv_QUANTIFIERS => repeat (first | exact Paired.nil | refine Paired.cons ⟨_, rfl⟩ ?_))
    (case gz_QUANTIFIERS => decide +kernel)
    (case xa_Clashing => k_is)
    (case xc_Clashing => k_is)
    (case xr_Clashing => decide +kernel)
    (case xs_Clashing => k_is)
    (case xg_Clashing => k_is)
    (case xh_Clashing => k_is)
    (case xn_Clashing => k_is)
    (case xi_Clashing => k_is)
    (case xt_Clashing => k_is)
    (case xl_Clashing => k_is)
    (case xq_Clashing => k_is)
    (case xk_Clashing => k_is)
    (case xe_Clashing => k_is)
    (case xy_Clashing => k_is)
    (case xd_Clashing => k_is)
    (case xz_Clashing => k_is)
    (case xa_Unknown => k_is)
    (case xc_Unknown => k_is)
    (case xr_Unknown => decide +kernel)
    (case xs_Unknown => k_is)
    (case xg_Unknown => k_is)
    (case xh_Unknown => k_is)
    (case xn_Unknown => k_is)
    (case xi_Unknown => k_is)
    (case xt_Unknown => k_is)
    (case xl_Unknown => k_is)
    (case xq_Unknown => k_is)
    (case xk_Unknown => k_is)
    (case xe_Unknown => k_is)
    (case xy_Unknown => k_is)
    (case xd_Unknown => k_is)
    (case xz_Unknown => k_is)
    (case xa_Misused => k_is)
    (case xc_Misused => k_is)
    (case xr_Misused => decide +kernel)
    (case xs_Misused => k_is)
    (case xg_Misused => k_is)
    (case xh_Misused => k_is)
    (case xn_Misused => k_is)
    (case xi_Misused => k_is)
    (case xt_Misused => k_is)
    (case xl_Misused => k_is)
    (case xq_Misused => k_is)
    (case xk_Misused => k_is)
    (case xe_Misused => k_is)
    (case xy_Misused => k_is)
    (case xd_Misused => k_is)
    (case xz_Misused => k_is)
    (case ss_CClCCl => first | rfl | k_is)
    (case ss_CUnCCl => first | rfl | k_is)
    (case ss_CMisCCl => first | rfl | k_is)
    (case ss_CUnCUn => first | rfl | k_is)
    (case ss_CMisCUn => first | rfl | k_is)
    (case ss_CMisCMis => first | rfl | k_is)
    (case gg_COMPARISONS => k_is)
    (case jlC => k_is)
    (case jkC => exact ⟨⟨_, _, rfl, rfl⟩, ⟨_, _, rfl, rfl⟩, True.intro⟩)
    (case jwC => decide +kernel)
    (case ksC => exact ⟨⟨_, rfl⟩, ⟨_, rfl⟩, True.intro⟩)
    (case gg_JOINTS => k_is)
    (case jlJ => k_is)
    (case jkJ => exact ⟨⟨_, _, rfl, rfl⟩, ⟨_, _, rfl, rfl⟩, ⟨_, _, rfl, rfl⟩, ⟨_, _, rfl, rfl⟩, True.intro⟩)
    (case jwJ => decide +kernel)
    (case ksJ => exact ⟨⟨_, rfl⟩, ⟨_, rfl⟩, ⟨_, rfl⟩, ⟨_, rfl⟩, True.intro⟩)
