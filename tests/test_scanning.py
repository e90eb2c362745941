from helper import LookerCase
from onelooker.errors import BadText
from onelooker.scanning import read_number, tokens


class TokensTest(LookerCase):

    def test_the_example(self):
        self.gives(["not", "o", ":", "b", "=", "a", "+", "1"], tokens, "not o: b = a + 1")

    def test_runs_of_letters_and_digits_are_one_token(self):
        self.gives(["a1b2", "10", "0a"], tokens, "a1b2 10 0a")
        self.gives(["g", "(", "f", "(", "a", ")", ",", "b", ")"], tokens, "g(f(a),b)")

    def test_less_or_equal_is_one_token_if_nothing_stands_between(self):
        self.gives(["size", "<=", "1"], tokens, "size <= 1")
        self.gives(["a", "<=", "b", "<", "=", "c"], tokens, "a<=b< =c")
        self.gives(["<=", "=", "=", "<", "<", "<="], tokens, "<===<<<=")

    def test_each_other_sign_is_a_token(self):
        self.gives(list("(),.:=<+"), tokens, "(),.:=<+")
        self.gives(["1", ".", "(", "(", ")", ")"], tokens, "1.(())")

    def test_spaces_separate(self):
        self.gives([], tokens, "")
        self.gives([], tokens, "   ")
        self.gives(["a", "b"], tokens, "  a   b  ")

    def test_no_other_character_may_occur(self):
        for code in range(1000):
            sign = chr(code)
            if sign in " (),.:=<+abcdefghijklmnopqrstuvwxyz0123456789":
                self.assertEqual(tokens(sign), [sign] if sign != " " else [])
            else:
                self.refuses(BadText, {"line": 1}, tokens, sign)
                self.refuses(BadText, {"line": 1}, tokens, f"a {sign}")

    def test_the_line_is_told(self):
        self.refuses(BadText, {"line": 17}, tokens, "a = b\n", line=17)
        self.refuses(BadText, {"line": 1}, tokens, "a\tb")
        self.gives(["a"], tokens, "a", line=17)

    def test_long_texts(self):
        self.assertEqual(tokens("ab" * 10000), ["ab" * 10000])
        self.assertEqual(tokens("a " * 10000), ["a"] * 10000)
        self.assertEqual(tokens("(" * 50 + ")" * 50), ["("] * 50 + [")"] * 50)
        self.refuses(BadText, {"line": 3}, tokens, "a" * 19999 + "-", line=3)


class NumberTest(LookerCase):

    def test_numbers(self):
        for number in range(1000):
            self.gives(number, read_number, str(number))
        self.refuses(BadText, {"line": 1}, read_number, "1000")

    def test_bounds(self):
        for number in range(12):
            if 2 <= number <= 9:
                self.gives(number, read_number, str(number), least=2, most=9)
            else:
                self.refuses(BadText, {"line": 1}, read_number, str(number), least=2, most=9)
        self.gives(999999, read_number, "999999", least=999999, most=999999)
        self.gives(100, read_number, "100", least=10, most=100)
        self.gives(0, read_number, "0", most=0)

    def test_crossed_bounds(self):
        for text in ["0", "1", "3", "4", "5", "-1", ""]:
            self.refuses(BadText, {"line": 1}, read_number, text, least=5, most=3)
            self.refuses(BadText, {"line": 1}, read_number, text, least=0, most=-1)
            self.refuses(BadText, {"line": 1}, read_number, text, least=999999, most=-1)
        self.refuses(BadText, {"line": 2}, read_number, "10", most=-1, line=2)

    def test_what_is_no_decimal(self):
        for text in ["", " ", "00", "01", "007", "+1", "-1", "-0", " 1", "1 ", "1\n", "1_0", "1.", "0x1", "a", "1a",
                     "a1", "\u0661", "\u00b2", "1e2", "one", "1,0"]:
            self.refuses(BadText, {"line": 1}, read_number, text)
            self.refuses(BadText, {"line": 8}, read_number, text, line=8)

    def test_very_long_texts(self):
        for text in ["9" * 20000, "0" * 20000, "1" + "0" * 19999, "1000000"]:
            self.refuses(BadText, {"line": 1}, read_number, text, most=999999)
