"""Runs each test file in a process of its own, and tells how many tests were run.

A file of tests is run from its own folder, with the top of the repository among the places of modules: so files in
unlike folders may have the same name.
"""

import glob
import os
import re
import subprocess
import sys
from concurrent.futures import ThreadPoolExecutor

TOP = os.path.dirname(os.path.dirname(os.path.abspath(__file__)))
FOLDERS = [os.path.join(TOP, "tests"), os.path.join(os.path.dirname(TOP), "shared", "tests")]


def version_of(python):
    """The version of a Python, None if it can't be run."""
    try:
        asked = subprocess.run([python, "-c", "import sys; print(*sys.version_info[:2], sep='.')"],
                               capture_output=True, text=True, check=False)
    except OSError:
        return None
    return asked.stdout.strip() if asked.returncode == 0 else None


def pythons():
    """The Python of this run, and, where they are here, 3.11 and 3.13: the program is the same under both."""
    found = {version_of(sys.executable): sys.executable}
    places = ["python3.11", "python3.13"]
    places += sorted(glob.glob(os.path.expanduser("~/.pyenv/versions/3.1[13].*/bin/python3")))
    for place in places:
        version = version_of(place)
        if version in ("3.11", "3.13"):
            found.setdefault(version, place)
    return found


def test_files():
    """All files of tests."""
    return sorted(os.path.join(folder, name) for top in FOLDERS for folder, _, names in os.walk(top)
                  for name in names if name.startswith("test_") and name.endswith(".py"))


def run_file(python, path):
    """How many tests of a file were run, how many failed, and what was printed."""
    places = TOP + os.pathsep + os.environ.get("PYTHONPATH", "")
    done = subprocess.run([python, "-m", "unittest", os.path.basename(path)], cwd=os.path.dirname(path),
                          env=dict(os.environ, PYTHONPATH=places), capture_output=True, text=True, check=False)
    told = re.findall(r"^Ran (\d+) tests?", done.stderr, re.M)
    ran = int(told[-1]) if told else 0
    line = re.findall(r"^FAILED \((.*)\)$", done.stderr, re.M)
    counts = re.findall(r"(?:failures|errors|unexpected successes)=(\d+)", line[-1]) if line else []
    failed = sum(int(count) for count in counts)
    # Since 3.12 a file without a test ends with 5; that is no failure of a test.
    if done.returncode not in (0, 5) or not told:
        failed = max(failed, 1)
    return ran, failed, done.stdout + done.stderr


def main():
    jobs = [(version, python, path) for version, python in pythons().items() for path in test_files()]
    with ThreadPoolExecutor(max_workers=os.cpu_count() or 1) as pool:
        answers = list(pool.map(lambda job: run_file(job[1], job[2]), jobs))
    all_ran = all_failed = 0
    for (version, _, path), (ran, failed, printed) in zip(jobs, answers):
        print(f"Python {version}, {os.path.relpath(path, TOP)}: {ran} run, {failed} failed")
        if failed:
            print(printed)
        # A failing test may fail by several of its cases, or before it is counted.
        all_ran += max(ran, failed)
        all_failed += failed
    print(f"{all_ran} tests were run")
    print(f"{all_ran - all_failed} passed, {all_failed} failed")
    return 0 if all_ran > 0 and all_failed == 0 else 1


if __name__ == "__main__":
    sys.exit(main())
