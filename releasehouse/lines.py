"""The lines of files that tell something."""


def told_lines(files, start):
    """Return (path, number, parts) for each line that tells something, in order.

    Start is the path of one file, or the beginning of paths, with its slash.
    A blank too many makes an empty part, which no form of a line takes.
    """
    rows = []
    for path, content in files:
        if path == start or (start.endswith("/") and path.startswith(start)):
            # What is behind a last line feed is empty, and so tells nothing.
            for at, line in enumerate(content.split("\n")):
                if line != "":
                    rows.append((path, at + 1, line.split(" ")))
    return rows
