"""Desks: a story that goes on, with what is watched in it."""

from whatopened.errors import BadDeed, BadWish, Held, NoDeed, NotHeld
from whatopened.kinds import is_list
from whatopened.rights import can
from whatopened.stops import is_wish
from whatopened.stories import must_be_name


class Desk:
    """Keeps a story to which deeds are added, taken back and done again, and wishes that are watched."""

    def __init__(self, story):
        # The stories behind all deeds that can be taken back or done again, and where among them the one now is.
        self.stories = [story]
        self.at = 0
        self.wishes = {}

    def story(self):
        """The story now."""
        return self.stories[self.at]

    def watch(self, name, wish):
        """Watches a wish under a name."""
        must_be_name(name)
        if name in self.wishes:
            raise Held(name)
        if not is_wish(self.story().house, wish):
            raise BadWish(0)
        self.wishes[name] = tuple(wish)

    def unwatch(self, name):
        """Watches the wish under a name no more."""
        self.must_be_held(name)
        del self.wishes[name]

    def state(self, name):
        """The verdict now of the wish that is watched under a name."""
        self.must_be_held(name)
        return self.word(self.story(), name)

    def must_be_held(self, name):
        """Raises NotHeld for any object under which no wish is watched."""
        # Not in the dict: any object may be no key.
        if name not in self.names():
            raise NotHeld(name)

    def word(self, story, name):
        """The verdict in a story of the wish that is watched under a name."""
        wish = self.wishes[name]
        return can(story, *wish)

    def names(self):
        """The ascending list of the names under which wishes are watched."""
        return sorted(self.wishes)

    def do(self, deed):
        """Does a deed; the news."""
        story = self.story().done(deed)
        self.stories = [*self.stories[:self.at + 1], story]
        return self.turn(self.at + 1)

    def undo(self):
        """Takes the last deed back that is not taken back; the news."""
        if self.at == 0:
            raise NoDeed()
        return self.turn(self.at - 1)

    def again(self):
        """Does the last deed again that was taken back; the news."""
        if self.at == len(self.stories) - 1:
            raise NoDeed()
        return self.turn(self.at + 1)

    def would(self, deeds):
        """The news that there would be if all deeds of a list were done."""
        if not is_list(deeds):
            raise BadDeed(deeds)
        story = self.story()
        for deed in deeds:
            story = story.done(deed)
        return self.news(story)

    def news(self, story):
        """The pairs of the watched wishes whose verdict in a story is another one than now, and this verdict."""
        words = [(name, self.word(story, name)) for name in self.names()]
        return [(name, word) for name, word in words if word != self.state(name)]

    def turn(self, at):
        """Goes on, or back, to another of the stories; the news."""
        news = self.news(self.stories[at])
        self.at = at
        return news
