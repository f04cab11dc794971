"""Point [43], and what [2] and [3] ask of waymark.desk."""

import random
import re
import unittest

from samples import NO_SIGNS, Hostile, Telling, chance_address, chance_pattern, chance_text, of_other_kinds, repr_of
from slow import place_of, slowly_fits, slowly_gone, slowly_relative, slowly_resolved
from waymark.desk import Desk
from waymark.errors import NoAddress, NoBase, NoName, NoPattern, NoRow, NoValue, WayError
from waymark.patterns import show_pattern
from waymark.plain import plain
from waymark.reading import read
from waymark.resolving import resolved
from waymark.showing import show
from waymark.tables import lead

LETTERS = "abcdefghijklmnop"


def desk_at(text, *rows):
    desk = Desk(text)
    for row in rows:
        desk.say(row)
    return desk


def full_desk():
    return desk_at("x://h/a/7", *["add " + letter + " /" + letter + "/{v:number}" for letter in LETTERS])


def slowly_written(text):
    return re.sub("[^A-Za-z0-9_.-]", lambda found: format(ord(found.group()), "02x").rjust(3, "~"), text)


def slow_answer(led):
    """The answer to a lead, of what the table tells."""
    if led is None:
        return "none"
    answer = led[0]
    for name, value in led[1]:
        texts = value if isinstance(value, list) else [str(value)]
        answer += " " + name + "=" + ",".join(slowly_written(text) for text in texts)
    return answer


class Saying(Telling):
    def says(self, desk, *rows):
        """Each row with the answer that is due."""
        for row, answer in rows:
            self.same(desk.say(row), answer, row)

    def refuses(self, desk, refusal, *rows):
        for row in rows:
            before = (desk.say("at"), desk.say("lead"))
            told = self.refused(refusal, desk.say, row)
            self.assertIsInstance(told, WayError)
            self.assertEqual((desk.say("at"), desk.say("lead")), before, repr_of(row))

    def refuses_at(self, desk, row, place):
        before = (desk.say("at"), desk.say("lead"))
        self.same(self.refused(NoAddress, desk.say, row).at, place, row)
        self.assertEqual((desk.say("at"), desk.say("lead")), before, row)


class Made(Saying):
    def test_at_the_plain_form(self):
        for text, at in (("x:", "x:/"), ("X://H.b:80/A/../B/./c?Q=~41#M", "x://h.b:80/B/c?Q=A#M"), ("x:/a", "x:/a"),
                         ("x:/../..", "x:/"), ("Http2://~41", "http2://a/"), ("x:/a/.", "x:/a/")):
            self.says(Desk(text), ("at", at), ("at", at))

    def test_no_address(self):
        for text, place in (("a//b", 2), ("x:b", 2), ("//h:65536", 8), ("a~4", 3), ("a~8f", 2), ("?a&", 3), (" ", 0),
                            ("x:\n", 2), ("//", 2)):
            self.same(self.refused(NoAddress, Desk, text).at, place)
        for thing in of_other_kinds() + [None, (), ("x:",), read("x:/a")]:
            self.same(self.refused(NoAddress, Desk, thing).at, 0)

    def test_no_base(self):
        for text in ("", "/", "a", "//h", "//h:1/a?q#m", "?q", "#m", "../a"):
            self.refused(NoBase, Desk, text)

    def test_what_is_no_address_ahead_of_what_is_no_base(self):
        for text in ("/a b", "//h:65536", "a//b", "~"):
            self.refused(NoAddress, Desk, text)

    def test_no_patterns_at_first(self):
        self.says(Desk("x:"), ("lead", "none"))
        self.refused(NoName, Desk("x:").say, "both a a")

    def test_drawn_texts(self):
        chance = random.Random("desks")
        for turn in range(1000):
            address = chance_address(chance)
            if address[0]:
                self.says(Desk(show(address)), ("at", show(plain(address))))
            else:
                self.refused(NoBase, Desk, show(address))


class Going(Saying):
    def test_ahead_of_and_behind_a_go(self):
        desk = Desk("x://h/a/b?q#m")
        self.says(desk, ("at", "x://h/a/b?q#m"), ("go c", "x://h/a/c"), ("at", "x://h/a/c"), ("go ../d/", "x://h/d/"),
                  ("at", "x://h/d/"), ("go e?r#n", "x://h/d/e?r#n"), ("at", "x://h/d/e?r#n"), ("go ", "x://h/d/e?r"),
                  ("at", "x://h/d/e?r"), ("go #k", "x://h/d/e?r#k"), ("go ?s", "x://h/d/e?s"), ("go /", "x://h/"),
                  ("go //G:1/Z", "x://g:1/Z"), ("go Y:/../a/./b/", "y:/a/b/"), ("at", "y:/a/b/"),
                  ("go ../../../..", "y:/"), ("at", "y:/"))

    def test_a_text_without_signs(self):
        self.says(Desk("x:/a?q#m"), ("go ", "x:/a?q"), ("link ", ""), ("at", "x:/a?q"))

    def test_every_writing_of_a_text(self):
        self.says(Desk("x:/"), ("go ~41~2F", "x:/A~2f"), ("go !$'()*,;@&=+", "x:/~21~24~27~28~29~2a~2c~3b~40~26~3d~2b"))

    def test_refused(self):
        desk = Desk("x://h/a/b?q#m")
        for text, place in (("a//b", 2), ("x:b", 2), ("//h:65536", 8), ("a~4", 3), ("a~8f", 2), ("?a&", 3), (" ", 0),
                            (" a", 0), ("a ", 1), ("a b", 1), ("a\n", 1), ("\n", 0), ("//", 2), ("{v}", 0), ("~", 1)):
            for word in ("go", "link"):
                self.refuses_at(desk, word + " " + text, place)

    def test_the_place_counts_from_the_text(self):
        chance = random.Random("places")
        desk = Desk("x://h/a/b?q#m")
        refused = 0
        for turn in range(2000):
            text = chance_text(chance, 0, 8, "ab:/?#&=~2f0 \n")
            place = place_of(text)
            if place is not None:
                refused += 1
                self.refuses_at(desk, chance.choice(("go ", "link ")) + text, place)
        self.assertGreater(refused, 500)

    def test_drawn_goings(self):
        chance = random.Random("goings")
        desk, at = Desk("x:"), read("x:/")
        for turn in range(3000):
            address = chance_address(chance, chance.random() < 0.2)
            due = slowly_resolved(at, address)
            due = (due[0].lower(), None if due[1] is None else due[1].lower()) + due[2:]
            if chance.random() < 0.5:
                told = show(slowly_relative(at, due))
                self.says(desk, ("link " + show(address), told), ("at", show(at)))
            else:
                self.says(desk, ("go " + show(address), show(due)), ("at", show(due)))
                at = due


class Linking(Saying):
    def test_links(self):
        desk = Desk("x://h:1/a/b/c?q#m")
        self.says(desk, ("link d", "d"), ("link ../d/", "../d/"), ("link /a/b/c?q", ""), ("link /a/b/c?q#n", "#n"),
                  ("link /a/b/c", "c"), ("link /a/b/c?r", "?r"), ("link /", "../../"), ("link //H:1/a/b/", "./"),
                  ("link //h/a", "//h/a"), ("link X://h:1/z", "../../z"), ("link y:", "y:/"), ("link ", ""),
                  ("at", "x://h:1/a/b/c?q#m"))

    def test_a_link_that_ends(self):
        self.says(Desk("x:/a/b"), ("link .", "./"), ("link ./", "./"), ("link ..", "../"), ("link x:/a/", "./"))

    def test_a_link_comes_to_where_go_would_come(self):
        chance = random.Random("links")
        for turn in range(2000):
            base = show(chance_address(chance, True))
            desk, other, third = Desk(base), Desk(base), Desk(base)
            text = show(chance_address(chance))
            link = desk.say("link " + text)
            goal = other.say("go " + text)
            self.assertEqual(show(resolved(read(desk.say("at")), read(link))), goal, (base, text))
            self.assertEqual(third.say("go " + link), goal, (base, text))
            self.assertEqual(desk.say("at"), show(plain(read(base))))


class Adding(Saying):
    def test_patterns_behind_the_others(self):
        desk = Desk("x:/a/b")
        self.says(desk, ("lead", "none"), ("add one /a/{v}", "ok"), ("lead", "one v=b"), ("add two /a/{w}", "ok"),
                  ("lead", "one v=b"), ("add three /a/b", "ok"), ("lead", "three"), ("at", "x:/a/b"))

    def test_in_the_place_of_the_one_that_had_the_name(self):
        desk = desk_at("x:/a", "add a /{v}", "add b /{w}", "add c /{u}")
        self.says(desk, ("lead", "a v=a"), ("add a /b", "ok"), ("lead", "b w=a"), ("add c /{z}", "ok"),
                  ("lead", "b w=a"), ("add a /{y}", "ok"), ("lead", "a y=a"), ("add b /{x}", "ok"), ("lead", "a y=a"),
                  ("add a /c", "ok"), ("lead", "b x=a"), ("add b /c", "ok"), ("lead", "c z=a"))

    def test_a_seventeenth(self):
        desk = full_desk()
        self.says(desk, ("lead", "a v=7"))
        self.refuses(desk, NoName, "add q /a/7", "add q /{v:rest}", "add q ", "add q /a//b", "add z {")
        self.says(desk, ("lead", "a v=7"), ("add p /a/7", "ok"), ("lead", "p"), ("add a /a/7", "ok"), ("lead", "a"))
        self.refuses(desk, NoName, "add q /a/7", "both a q", "both q a")
        self.refuses(desk, NoPattern, "add p ", "add a a")
        for letter in LETTERS:
            self.says(desk, ("add " + letter + " /z/{v:rest}", "ok"))
        self.says(desk, ("lead", "none"), ("go /z/y", "x://h/z/y"), ("lead", "a v=y"))

    def test_a_sixteenth(self):
        desk = desk_at("x:/z", *["add " + letter + " /" + letter for letter in LETTERS[:15]])
        self.refuses(desk, NoPattern, "add z z")
        self.says(desk, ("add z /{v}", "ok"), ("lead", "z v=z"))
        self.refuses(desk, NoName, "add y /z")

    def test_names(self):
        desk = Desk("x:/a")
        for name in ("a", "z", "none", "abcdefgh", "at", "go"):
            self.says(desk, ("add " + name + " /a", "ok"))
        for name in ("A", "aB", "abcdefghi", "a1", "1", "a-b", "a/b", "/", "{a}", ".", "a=b", "~", "a" * 2000,
                     "a\tb", "a\n", "\n"):
            for text in ("/a", "", "{", " "):
                self.refuses(desk, NoName, "add " + name + " " + text)

    def test_patterns_refused(self):
        desk = desk_at("x:/a", "add a /{v}")
        for text in ("", "a", " /a", "/a ", "/a b", "/{v}/{v}", "/{v:rest}/a", "//", "/.", "/a//b", "/~", "/{V}",
                     "/{v:gap}", "/a\n", "\n", "/" + "a/" * 13):
            self.refuses(desk, NoPattern, "add a " + text, "add b " + text)
        self.refuses(desk, NoName, "both a b")
        self.says(desk, ("lead", "a v=a"))

    def test_every_writing_of_a_pattern(self):
        self.says(desk_at("x:/A~2f/b"), ("add n /~41~2F/{v}", "ok"), ("lead", "n v=b"))


class Leading(Saying):
    def leads(self, way, pattern, answer):
        self.says(desk_at("x:" + way, "add n " + pattern), ("lead", answer))

    def test_no_patterns(self):
        for text in ("x:", "x:/a", "x://h:1/a/b/?q#m"):
            self.says(Desk(text), ("lead", "none"))

    def test_no_pattern_that_fits(self):
        self.leads("/a", "/b", "none")
        self.leads("/a/", "/{v}", "none")
        self.leads("/", "/{v:rest}/", "none")

    def test_each_kind_of_value(self):
        self.leads("/a", "/a", "n")
        self.leads("/", "/", "n")
        self.leads("/xab", "/x{v}", "n v=ab")
        self.leads("/x~20y", "/x{v}y", "n v=~20")
        self.leads("/0", "/{v:number}", "n v=0")
        self.leads("/120/", "/{v:number}/", "n v=120")
        self.leads("/" + "9" * 60, "/{v:number}", "n v=" + "9" * 60)
        self.leads("/ab", "/{v:word}", "n v=ab")
        self.leads("/~41~20~2c~7e~3d", "/{v}", "n v=A~20~2c~7e~3d")
        self.leads("/007", "/{v}", "n v=007")
        self.leads("/...", "/{v}", "n v=...")
        self.leads("/a", "/{v:rest}", "n v=a")
        self.leads("/a/b,c/~20/", "/{v:rest}/", "n v=a,b~2cc,~20")
        self.leads("/1/a", "/{v:number}/{w:rest}", "n v=1 w=a")
        self.leads("/a/1/xy/b/c/~2f", "/{d:word}/{c:number}/x{b}/{a}/{z:rest}", "n d=a c=1 b=y a=b z=c,~2f")

    def test_the_way_at_which_it_is(self):
        desk = desk_at("x:/a/1?q#m", "add one /a/{v:number}", "add any /{r:rest}", "add end /{r:rest}/")
        self.says(desk, ("lead", "one v=1"), ("go 2", "x:/a/2"), ("lead", "one v=2"), ("link /b", "../b"),
                  ("lead", "one v=2"), ("go b", "x:/a/b"), ("lead", "any r=a,b"), ("go .", "x:/a/"),
                  ("lead", "end r=a"), ("go /", "x:/"), ("lead", "none"), ("go x://h/a/7", "x://h/a/7"),
                  ("lead", "one v=7"))

    def test_a_pattern_of_the_name_none(self):
        self.says(desk_at("x:/a", "add none /{v}"), ("lead", "none v=a"))

    def test_drawn_tables(self):
        chance = random.Random("leading")
        led = 0
        for turn in range(500):
            desk, table = Desk(show(chance_address(chance, True))), []
            for letter in LETTERS:
                pattern = chance_pattern(chance, 3)
                table.append((letter, pattern))
                self.says(desk, ("add " + letter + " " + show_pattern(pattern), "ok"))
                due = lead(table, slowly_gone(read(desk.say("at"))[3]))
                self.says(desk, ("lead", slow_answer(due)))
                led += due is not None
        self.assertGreater(led, 500)


class Both(Saying):
    def test_a_way(self):
        desk = desk_at("x:/", "add a /a/{v:number}/", "add b /{v}/7/", "add c /{v:rest}/", "add d /", "add e /~20{v}",
                       "add f /~20a")
        self.says(desk, ("both a b", "/a/7/"), ("both b a", "/a/7/"), ("both d d", "/"), ("both e f", "/~20a"),
                  ("both f f", "/~20a"))
        for one, other in ("aa", "ac", "ca", "bc", "cc", "ee"):
            way = read(desk.say("both " + one + " " + other))
            self.assertEqual((way[:3], way[4:]), (("", None, None), (None, None)))

    def test_none(self):
        desk = desk_at("x:/", "add a /a", "add b /b", "add c /a/", "add d /{v:rest}/", "add e /")
        for one, other in ("ab", "ba", "ac", "ad", "de", "ed", "be"):
            self.says(desk, ("both " + one + " " + other, "none"))

    def test_names_that_are_not_there(self):
        desk = desk_at("x:/", "add a /a", "add b /b")
        self.refuses(desk, NoName, "both a c", "both c a", "both c c", "both A a", "both a B", "both / /", "both a 1",
                     "both aa a", "both a\n a", "both a \n", "both abcdefghi a", "both none a", "both a\tb a")
        self.refuses(Desk("x:/"), NoName, "both a a", "both a b", "both . ?")

    def test_names_behind_a_change(self):
        desk = desk_at("x:/", "add a /a", "add b /b")
        self.says(desk, ("both a b", "none"), ("add b /{v}", "ok"), ("both a b", "/a"), ("add a /q", "ok"),
                  ("both a b", "/q"))

    def test_drawn_patterns(self):
        chance = random.Random("both")
        met = 0
        for turn in range(2000):
            one, other = chance_pattern(chance, 2), chance_pattern(chance, 2)
            desk = desk_at("x:", "add one " + show_pattern(one), "add other " + show_pattern(other))
            answer = desk.say("both one other")
            if answer != "none":
                met += 1
                way = read(answer)
                self.assertEqual(show(way), answer)
                self.assertEqual((way[:3], way[4:]), (("", None, None), (None, None)))
                self.assertTrue(slowly_fits(one, way[3]) and slowly_fits(other, way[3]), (one, other))
        self.assertGreater(met, 100)


class Rows(Saying):
    def test_what_is_no_text(self):
        desk = full_desk()
        self.refuses(desk, NoRow, *of_other_kinds())
        self.refuses(desk, NoRow, None, (), ("at",), ["at"], {"at": "at"}, b"at", Hostile())

    def test_another_word(self):
        desk = full_desk()
        self.refuses(desk, NoRow, "", " ", "  ", "a", "At", "AT", "att", "t", "goto", "g", "go/", "linked", "adds",
                     "leads", "none", "say at", "both/", "Go a", "ADD a /a", "at\n", "at\t", "\nat", "go\ta",
                     "add\na /a", "~", "read x:", *NO_SIGNS)

    def test_something_lacking(self):
        desk = full_desk()
        self.refuses(desk, NoRow, "go", "link", "add", "add ", "add a", "add abc", "add A", "both", "both ", "both a",
                     "both a ", "both  ", "both A", "add  ", "add  /a")

    def test_something_more(self):
        desk = full_desk()
        self.refuses(desk, NoRow, "at ", "at a", "at  ", "lead ", "lead a", "lead /a", "both a b ", "both a b c",
                     "both a b  ", "both a a\n a")

    def test_a_blank_too_many(self):
        desk = full_desk()
        self.refuses(desk, NoRow, " at", "  at", " lead", " go a", " link a", " add a /a", " both a b", "add  a /a",
                     "both  a b", "both a  b", "at ", "lead ", "both a b ")
        self.refuses_at(desk, "go  a", 0)
        self.refuses_at(desk, "link  a", 0)
        self.refuses(desk, NoPattern, "add a  /a", "add a /a ")

    def test_rows_ahead_of_names_and_names_ahead_of_texts(self):
        desk = full_desk()
        self.refuses(desk, NoRow, "add A", "add qq", "both A", "both A B C", "both q q ")
        self.refuses(desk, NoName, "add A a", "add A /{", "add q a", "add abcdefghi ", "both A a", "both q r")
        self.refuses(desk, NoPattern, "add a a")

    def test_the_refusals(self):
        desk = full_desk()
        refusals = (NoRow, NoName, NoAddress, NoPattern, NoBase, NoValue)
        for row, refusal in (("", NoRow), ("add A /a", NoName), ("both a q", NoName), ("go ~", NoAddress),
                             ("link ~", NoAddress), ("add a a", NoPattern)):
            told = self.refused(refusal, desk.say, row)
            self.assertIsInstance(told, ValueError)
            self.assertEqual([other for other in refusals if isinstance(told, other)], [refusal])

    def test_what_is_refused_changes_nothing(self):
        desk = full_desk()
        rows = ["at", "lead", "link /a/8?q"] + ["both " + one + " " + other for one in "ap" for other in LETTERS]
        before = [desk.say(row) for row in rows]
        for row in (None, "", "go", "go ~", "go a//b", "link ~", "add a", "add a a", "add A /a", "add q /a", "add q q",
                    "both a q", "both q a", "both a", "at ", "lead "):
            with self.assertRaises(WayError):
                desk.say(row)
            self.assertEqual([desk.say(asked) for asked in rows], before, row)

    def test_words_of_rows_as_texts_and_names(self):
        desk = Desk("x:/a")
        for word in ("at", "go", "link", "add", "lead", "both"):
            self.says(desk, ("link " + word, word), ("go " + word, "x:/" + word), ("at", "x:/" + word),
                      ("add " + word + " /" + word, "ok"), ("lead", word), ("both " + word + " " + word, "/" + word))
            for other in ("at", "lead"):
                self.says(desk, ("add " + other + " /" + other, "ok"),
                          ("both " + word + " " + other, "/" + word if word == other else "none"),
                          ("both " + other + " " + word, "/" + word if word == other else "none"))
            self.refuses(desk, NoPattern, "add " + word + " " + word, "add " + word + " at", "add " + word + " lead")

    def test_the_same_asked_again(self):
        desk = full_desk()
        for row in ("at", "lead", "link ../b", "both a a", "go ", "add a /a/{v:number}"):
            self.assertEqual(desk.say(row), desk.say(row))


class Desks(Saying):
    def test_beside_one_another(self):
        one, other = Desk("x:/a"), Desk("y://h/b")
        self.says(one, ("add n /{v}", "ok"), ("lead", "n v=a"))
        self.says(other, ("lead", "none"), ("at", "y://h/b"), ("add n /b", "ok"), ("lead", "n"))
        self.says(one, ("lead", "n v=a"), ("go c", "x:/c"), ("lead", "n v=c"))
        self.says(other, ("at", "y://h/b"), ("lead", "n"))
        self.refuses(one, NoName, "both n m")
        self.says(other, ("add m /{v}", "ok"), ("both n m", "/b"))
        self.refuses(one, NoName, "both n m")

    def test_a_full_one_beside_an_empty_one(self):
        full, empty = full_desk(), Desk("x:/q")
        self.refuses(full, NoName, "add q /q")
        self.says(empty, ("add q /q", "ok"), ("lead", "q"))


if __name__ == "__main__":
    unittest.main()
