"""Countalike: questions to tables that always count the same."""
