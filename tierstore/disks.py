"""A disk: texts under names, and steps amid which it may stop."""

from tierstore.errors import NoFile, Stopped


def refuse_a_stopped_one(disk):
    if disk.has_stopped():
        raise Stopped(disk.steps())


class Disk:
    def __init__(self, files=None, stop=None, torn=0):
        self.texts = {} if files is None else dict(files)
        self.done = 0
        self.stops_behind = stop
        self.torn = torn
        self.refused = False

    def names(self):
        return sorted(self.texts)

    def has(self, name):
        return name in self.texts

    def text(self, name):
        self.refuse_what_is_not_there(name)
        return self.texts[name]

    def files(self):
        return dict(self.texts)

    def steps(self):
        return self.done

    def has_stopped(self):
        return self.refused

    def stop_in(self, many, torn=0):
        # A disk that has stopped goes on refusing, with the number that it told.
        if not self.refused:
            self.stops_behind = self.done + many
            self.torn = torn

    def write(self, name, text):
        self.refuse_at_the_stop()
        self.texts[name] = text
        self.done = self.done + 1

    def lengthen(self, name, text):
        if self.is_at_the_stop() and not self.refused:
            self.lengthen_torn(name, text[:self.torn])
        self.refuse_at_the_stop()
        self.add_behind(name, text)
        self.done = self.done + 1

    def take_off(self, name):
        self.refuse_at_the_stop()
        self.refuse_what_is_not_there(name)
        self.texts.pop(name)
        self.done = self.done + 1

    def add_behind(self, name, text):
        self.texts[name] = self.texts.get(name, "") + text

    def lengthen_torn(self, name, text):
        # Unlike a lengthening that is done, one of which no sign arrives makes no file.
        if text != "":
            self.add_behind(name, text)

    def is_at_the_stop(self):
        return self.stops_behind is not None and self.done >= self.stops_behind

    def refuse_at_the_stop(self):
        if self.is_at_the_stop():
            self.refused = True
            raise Stopped(self.done)

    def refuse_what_is_not_there(self, name):
        if not self.has(name):
            raise NoFile(name)
