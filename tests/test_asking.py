"""Asked again of the same, the same is told, whatever was asked in between; only plain values are told."""

import copy
import unittest

from helper import big_webs, is_told, small_webs
from ringmeet.naming import redoored, renamed
from ringmeet.walks import led, way_back, ways
from ringmeet.webs import is_web, lane, ring


def turned_rooms(web):
    return tuple(range(len(web)))[::-1]


def turned_doors(web):
    return tuple(tuple(range(len(doors)))[::-1] for doors in web)


def web_questions(web):
    """Each question of a web, ready to be asked again."""
    last = len(web) - 1
    return [
        lambda: is_web(web),
        lambda: is_web(list(web)),
        lambda: led(web, 0, (0,)),
        lambda: led(web, last, (0, 0, 7)),
        lambda: way_back(web, last, ways(web, last)[0]),
        lambda: ways(web, 0),
        lambda: ways(web, last),
        lambda: renamed(web, turned_rooms(web)),
        lambda: redoored(web, turned_doors(web)),
        lambda: ring(len(web)),
        lambda: lane(len(web)),
    ]


def webs_to_ask():
    return small_webs(3, 4) + big_webs() + [ring(many) for many in (1, 2, 6)] + [lane(many) for many in (1, 2, 6)]


class AskedAgain(unittest.TestCase):
    questions = staticmethod(web_questions)

    def test_two_webs_asked_by_turns(self):
        webs = webs_to_ask()
        alone = [[ask() for ask in self.questions(web)] for web in webs]
        for k, web in enumerate(webs):
            other = (k + 1) % len(webs)
            for n, (ask, ask_other) in enumerate(zip(self.questions(web), self.questions(webs[other]))):
                self.assertEqual((ask(), ask_other(), ask()), (alone[k][n], alone[other][n], alone[k][n]))

    def test_told_are_plain_values(self):
        for web in webs_to_ask():
            for ask in self.questions(web):
                self.assertTrue(is_told(ask()))

    def test_what_is_handed_in_stays(self):
        for web in webs_to_ask():
            before = copy.deepcopy(web)
            for ask in self.questions(web):
                ask()
            self.assertEqual(web, before)


if __name__ == "__main__":
    unittest.main()
