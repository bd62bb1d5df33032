"""A desk, to which rows of text are said, and which answers by texts."""

from tierstore.disks import Disk, refuse_a_stopped_one
from tierstore.errors import BadDeed, BadKey, BadValue, NoSnapshot, Stopped
from tierstore.rising import risen
from tierstore.sayings import in_quotes, read_row
from tierstore.stores import Store


def or_none(texts):
    return texts if len(texts) > 0 else ["none"]


def stamp_answer(stamp):
    return [f"stamp {stamp}"]


def put_answer(store, said):
    return stamp_answer(store.put(said["KEY"], said["VALUE"]))


def drop_answer(store, said):
    return stamp_answer(store.drop(said["KEY"]))


def both_answer(store, said):
    return stamp_answer(store.both(said["DEEDS"]))


def ask_answer(store, said):
    value = store.ask(said["KEY"], said.get("STAMP"))
    return ["none"] if value is None else ["value " + in_quotes(value)]


def walk_answer(store, said):
    pairs = store.walk(said.get("LOW", ""), said.get("HIGH"), said.get("STAMP"))
    return or_none([in_quotes(pair[0]) + " " + in_quotes(pair[1]) for pair in pairs])


def snapshot_answer(store, said):
    return stamp_answer(store.snapshot())


def release_answer(store, said):
    store.release(said["STAMP"])
    return ["released"]


def held_answer(store, said):
    stamps = store.held()
    return ["none"] if len(stamps) == 0 else [" ".join(["held"] + [str(stamp) for stamp in stamps])]


def road_answer(store, said):
    return [" ".join(pair) for pair in store.road(said["KEY"], said.get("STAMP"))]


def pour_answer(store, said):
    store.pour()
    return ["poured"]


STORE_ANSWERS = {
    "put": put_answer, "drop": drop_answer, "both": both_answer, "ask": ask_answer, "walk": walk_answer,
    "snapshot": snapshot_answer, "release": release_answer, "held": held_answer, "road": road_answer,
    "pour": pour_answer,
}


class Desk:
    def __init__(self, width=8, fan=3):
        self.width = width
        self.fan = fan
        self.disk = Disk()
        self.store = Store(self.disk, width, fan)

    def its_disk(self):
        return self.disk

    def say(self, row):
        pair = read_row(row)
        if pair is None:
            return ["what?"]
        try:
            return self.answer(pair[0], pair[1])
        except Stopped:
            return ["stopped"]
        except BadKey:
            return ["refused: key"]
        except BadValue:
            return ["refused: value"]
        except BadDeed:
            return ["refused: deed"]
        except NoSnapshot:
            return ["refused: snapshot"]

    def answer(self, word, said):
        if word == "files":
            return or_none(self.disk.names())
        if word == "rise":
            return self.rise()
        if word == "stop":
            return self.stop(said["N"], said.get("T", 0))
        return STORE_ANSWERS[word](self.store, said)

    def rise(self):
        # A disk that was told to stop stays so, but what lies on it may lie on another one.
        disk = Disk(self.disk.files())
        self.store = risen(disk, self.width, self.fan)
        self.disk = disk
        last = self.store.last
        return [f"up {last}"]

    def stop(self, many, torn):
        refuse_a_stopped_one(self.disk)
        self.disk.stop_in(many, torn)
        return ["stops"]


def answered(text, width=8, fan=3):
    desk = Desk(width, fan)
    told = []
    for row in text.split("\n"):
        told.extend(desk.say(row))
    return told
